import Derived.Test.YtpcbmnmgefhaaaaGreatDoorBr
import Derived.Test.YtpcbmnmgefhaaaaGreatDoorR3
import Derived.Test.YtpcbmnmgefhaaaaGreatDoorDn
namespace Go.Proofs.YtpcbmnmgefhaaaaGreatDoor
set_option maxRecDepth 100000
set_option linter.unusedVariables false
structure N5 where
 a:Int
 b:Int
 c:Int
 d:Int
 e:Int
def N5.list (n:N5):List Int:=[n.a,n.b,n.c,n.d,n.e]
def N5.val (n:N5):Int:=n.a + 67108864 * n.b + 4503599627370496 * n.c + 302231454903657293676544 * n.d + 20282409603651670423947251286016 * n.e
structure N5.le (n:N5) (B:Int):Prop where
 a:0≤n.a∧n.a≤B
 b:0≤n.b∧n.b≤B
 c:0≤n.c∧n.c≤B
 d:0≤n.d∧n.d≤B
 e:0≤n.e∧n.e≤B
theorem N5.le.mono {n:N5} {B C:Int} (h:n.le B) (hc:B≤C):n.le C:=by
 obtain ⟨h1,h2,h3,h4,h5⟩:=h
 exact ⟨by omega,by omega,by omega,by omega,by omega⟩
theorem N5.le.get {n:N5} {B:Int} (h:n.le B) (hB:0≤B) (k:Nat):0≤n.list.getD k 0∧n.list.getD k 0≤B:=by
 rcases (by omega:k=0∨k=1∨k=2∨k=3∨k=4∨5≤k) with rfl | rfl | rfl | rfl | rfl | h5
 ·exact h.a
 ·exact h.b
 ·exact h.c
 ·exact h.d
 ·exact h.e
 ·have:n.list.getD k 0=0:=by
   have hl:n.list.length=5:=rfl
   simp [List.getD,List.getElem?_eq_none (by omega:n.list.length≤k)]
  omega
def zeroN:N5:=⟨0,0,0,0,0⟩
def primeP:Int:=1361129467683753853853498429727072845819
def addN (n m:N5):N5:=⟨n.a + m.a,n.b + m.b,n.c + m.c,n.d + m.d,n.e + m.e⟩
theorem addN_val (n m:N5):(addN n m).val=n.val + m.val:=by unfold addN N5.val;simp only;omega
theorem addN_le {n m:N5} {B C:Int} (h:n.le B) (k:m.le C):(addN n m).le (B + C):=by
 obtain ⟨h1,h2,h3,h4,h5⟩:=h
 obtain ⟨k1,k2,k3,k4,k5⟩:=k
 exact ⟨by simp only [addN];omega,by simp only [addN];omega,by simp only [addN];omega,by simp only [addN];omega,by simp only [addN];omega⟩
def mulN (n m:N5):N5:=⟨
 n.a * m.a + 5 * (n.b * m.e + n.c * m.d + n.d * m.c + n.e * m.b),
 n.a * m.b + n.b * m.a + 5 * (n.c * m.e + n.d * m.d + n.e * m.c),
 n.a * m.c + n.b * m.b + n.c * m.a + 5 * (n.d * m.e + n.e * m.d),
 n.a * m.d + n.b * m.c + n.c * m.b + n.d * m.a + 5 * (n.e * m.e),
 n.a * m.e + n.b * m.d + n.c * m.c + n.d * m.b + n.e * m.a⟩
def mulQ (n m:N5):Int:=(n.b * m.e + n.c * m.d + n.d * m.c + n.e * m.b) + 67108864 * (n.c * m.e + n.d * m.d + n.e * m.c) + 4503599627370496 * (n.d * m.e + n.e * m.d) + 302231454903657293676544 * (n.e * m.e)
theorem mulN_val (n m:N5):n.val * m.val=(mulN n m).val + primeP * mulQ n m:=by
 unfold mulN mulQ N5.val primeP
 simp only
 grind
theorem mul_bd {x y B C:Int} (hx:0≤x∧x≤B) (hy:0≤y∧y≤C):0≤x * y∧x * y≤B * C :=
 ⟨Int.mul_nonneg hx.1 hy.1,Int.mul_le_mul hx.2 hy.2 hy.1 (by omega)⟩
theorem mulN_le {n m:N5} (h:n.le 268435456) (k:m.le 67108863):(mulN n m).le 378302363061977088:=by
 have e:(268435456:Int) * 67108863=18014398241046528:=by decide
 have aa:=mul_bd h.a k.a
 have ab:=mul_bd h.a k.b
 have ac:=mul_bd h.a k.c
 have ad:=mul_bd h.a k.d
 have ae:=mul_bd h.a k.e
 have ba:=mul_bd h.b k.a
 have bb:=mul_bd h.b k.b
 have bc:=mul_bd h.b k.c
 have bd:=mul_bd h.b k.d
 have be:=mul_bd h.b k.e
 have ca:=mul_bd h.c k.a
 have cb:=mul_bd h.c k.b
 have cc:=mul_bd h.c k.c
 have cd:=mul_bd h.c k.d
 have ce:=mul_bd h.c k.e
 have da:=mul_bd h.d k.a
 have db:=mul_bd h.d k.b
 have dc:=mul_bd h.d k.c
 have dd:=mul_bd h.d k.d
 have de:=mul_bd h.d k.e
 have ea:=mul_bd h.e k.a
 have eb:=mul_bd h.e k.b
 have ec:=mul_bd h.e k.c
 have ed:=mul_bd h.e k.d
 have ee:=mul_bd h.e k.e
 simp only [e] at *
 refine ⟨?_,?_,?_,?_,?_⟩ <;> simp only [mulN] <;> omega
def c1 (n:N5):Int:=n.a / 67108864
def c2 (n:N5):Int:=(n.b + c1 n) / 67108864
def c3 (n:N5):Int:=(n.c + c2 n) / 67108864
def c4 (n:N5):Int:=(n.d + c3 n) / 67108864
def c5 (n:N5):Int:=(n.e + c4 n) / 67108864
def carryN (n:N5):N5:=⟨n.a % 67108864,(n.b + c1 n) % 67108864,(n.c + c2 n) % 67108864,(n.d + c3 n) % 67108864,(n.e + c4 n) % 67108864⟩
theorem carryN_val (n:N5):n.val=(carryN n).val + 1361129467683753853853498429727072845824 * c5 n:=by
 have h1:c1 n=n.a / 67108864:=rfl
 have h2:c2 n=(n.b + c1 n) / 67108864:=rfl
 have h3:c3 n=(n.c + c2 n) / 67108864:=rfl
 have h4:c4 n=(n.d + c3 n) / 67108864:=rfl
 have h5:c5 n=(n.e + c4 n) / 67108864:=rfl
 unfold carryN N5.val
 simp only
 omega
theorem carryN_le (n:N5):(carryN n).le 67108863:=by
 refine ⟨?_,?_,?_,?_,?_⟩ <;> simp only [carryN] <;> omega
theorem c_bd {n:N5} {B:Int} (h:n.le B) (hB:B≤1000000000000000000) :
  (0≤c1 n∧c1 n≤15000000000)∧(0≤c2 n∧c2 n≤15000000000)∧(0≤c3 n∧c3 n≤15000000000)∧(0≤c4 n∧c4 n≤15000000000)∧(0≤c5 n∧c5 n≤15000000000):=by
 obtain ⟨ha,hb,hc,hd,he⟩:=h
 have h1:c1 n=n.a / 67108864:=rfl
 have h2:c2 n=(n.b + c1 n) / 67108864:=rfl
 have h3:c3 n=(n.c + c2 n) / 67108864:=rfl
 have h4:c4 n=(n.d + c3 n) / 67108864:=rfl
 have h5:c5 n=(n.e + c4 n) / 67108864:=rfl
 omega
def redN1 (n:N5):N5:=⟨(carryN n).a + 5 * c5 n,(carryN n).b,(carryN n).c,(carryN n).d,(carryN n).e⟩
def redN (n:N5):N5:=redN1 (redN1 n)
theorem redN1_val (n:N5):n.val=(redN1 n).val + primeP * c5 n:=by
 have h:=carryN_val n
 unfold redN1 primeP
 unfold N5.val at h ⊢
 simp only at h ⊢
 omega
theorem redN1_le {n:N5} (h:n.le 1000000000000000000):(redN1 n).le 75067108863:=by
 have hc:=carryN_le n
 have hb:=(c_bd h (Int.le_refl _)).2.2.2.2
 obtain ⟨h1,h2,h3,h4,h5⟩:=hc
 refine ⟨?_,?_,?_,?_,?_⟩ <;> simp only [redN1] <;> omega
theorem redN_all {n:N5} (h:n.le 1000000000000000000):(redN n).le 67108868∧0≤(redN n).val∧(redN n).val < 1361129467683753853853498429727072845824∧(redN n).val % primeP=n.val % primeP:=by
 have v1:=redN1_val n
 have v2:=redN1_val (redN1 n)
 have w2:=carryN_val (redN1 n)
 have hc:=carryN_le n
 have hb:=(c_bd h (Int.le_refl _)).2.2.2.2
 have hc2:=carryN_le (redN1 n)
 have e1:c1 (redN1 n)=(redN1 n).a / 67108864:=rfl
 have e2:c2 (redN1 n)=((redN1 n).b + c1 (redN1 n)) / 67108864:=rfl
 have e3:c3 (redN1 n)=((redN1 n).c + c2 (redN1 n)) / 67108864:=rfl
 have e4:c4 (redN1 n)=((redN1 n).d + c3 (redN1 n)) / 67108864:=rfl
 have e5:c5 (redN1 n)=((redN1 n).e + c4 (redN1 n)) / 67108864:=rfl
 have ra:(redN1 n).a=(carryN n).a + 5 * c5 n:=rfl
 have rb:(redN1 n).b=(carryN n).b:=rfl
 have rc:(redN1 n).c=(carryN n).c:=rfl
 have rd:(redN1 n).d=(carryN n).d:=rfl
 have re:(redN1 n).e=(carryN n).e:=rfl
 have hmod:(redN n).val % primeP=n.val % primeP:=by
  have:n.val=(redN n).val + primeP * (c5 (redN1 n) + c5 n):=by
   show n.val=(redN1 (redN1 n)).val + _
   rw [Int.mul_add]
   omega
  rw [this,Int.add_mul_emod_self_left]
 obtain ⟨h1,h2,h3,h4,h5⟩:=hc
 obtain ⟨k1,k2,k3,k4,k5⟩:=hc2
 have f2:0≤c2 (redN1 n)∧c2 (redN1 n)≤1:=by omega
 have f3:0≤c3 (redN1 n)∧c3 (redN1 n)≤1:=by omega
 have f4:0≤c4 (redN1 n)∧c4 (redN1 n)≤1:=by omega
 have f5:0≤c5 (redN1 n)∧c5 (redN1 n)≤1:=by omega
 have hv1:(redN1 n).val≤1361129467683753853853498429727072845824 + 75067108863:=by
  unfold N5.val
  omega
 have hle:(redN n).le 67108868:=by
  refine ⟨?_,?_,?_,?_,?_⟩ <;> show 0≤_∧_ <;> simp only [redN,redN1] at * <;> omega
 refine ⟨hle,?_,?_,hmod⟩
 ·obtain ⟨l1,l2,l3,l4,l5⟩:=hle
  unfold N5.val
  omega
 ·have hcv:0≤(carryN (redN1 n)).val∧(carryN (redN1 n)).val < 1361129467683753853853498429727072845824:=by
   unfold N5.val
   omega
  have hr:(redN n).val=(carryN (redN1 n)).val + 5 * c5 (redN1 n):=by
   unfold redN redN1 N5.val
   simp only
   omega
  omega
def beyondN (n:N5):N5:=⟨n.a + 5,n.b,n.c,n.d,n.e⟩
def leastN (n:N5):N5:=carryN ⟨n.a + 5 * c5 (beyondN n),n.b,n.c,n.d,n.e⟩
theorem leastN_all {n:N5} (h:n.le 67108868) (h0:0≤n.val) (h1:n.val < 1361129467683753853853498429727072845824):(leastN n).le 67108863∧(leastN n).val=n.val % primeP∧0≤c5 (beyondN n)∧c5 (beyondN n)≤1:=by
 have v1:=carryN_val (beyondN n)
 have l1:=carryN_le (beyondN n)
 have hb:(beyondN n).val=n.val + 5:=by unfold beyondN N5.val;simp only;omega
 have v2:=carryN_val ⟨n.a + 5 * c5 (beyondN n),n.b,n.c,n.d,n.e⟩
 have l2:=carryN_le ⟨n.a + 5 * c5 (beyondN n),n.b,n.c,n.d,n.e⟩
 have hv:(⟨n.a + 5 * c5 (beyondN n),n.b,n.c,n.d,n.e⟩:N5).val=n.val + 5 * c5 (beyondN n):=by unfold N5.val;simp only;omega
 have q1:0≤(carryN (beyondN n)).val∧(carryN (beyondN n)).val < 1361129467683753853853498429727072845824:=by
  obtain ⟨k1,k2,k3,k4,k5⟩:=l1
  unfold N5.val
  omega
 have q2:0≤(leastN n).val∧(leastN n).val < 1361129467683753853853498429727072845824:=by
  obtain ⟨k1,k2,k3,k4,k5⟩:=l2
  unfold leastN N5.val
  omega
 refine ⟨l2,?_,by omega,by omega⟩
 have e:(leastN n).val=(carryN ⟨n.a + 5 * c5 (beyondN n),n.b,n.c,n.d,n.e⟩).val:=rfl
 have hc:c5 (beyondN n)=0∨c5 (beyondN n)=1:=by omega
 rcases hc with hc | hc <;> rw [hc] at v1 v2 hv e <;> rw [e] at q2 ⊢ <;> unfold primeP <;> omega
def numN (low high top:Int):N5:=⟨low % 67108864,low / 67108864 % 67108864,low / 4503599627370496 + high % 16384 * 4096,high / 16384 % 67108864,high / 1099511627776 + top * 16777216⟩
theorem numN_val (low high top:Int) :
  (numN low high top).val=low + 18446744073709551616 * high + 340282366920938463463374607431768211456 * top:=by
 unfold numN N5.val
 simp only
 omega
theorem numN_le {low high top:Int} (h1:0≤low∧low≤18446744073709551615) (h2:0≤high∧high≤18446744073709551615) (h3:0≤top∧top≤3):(numN low high top).le 67108863:=by
 refine ⟨?_,?_,?_,?_,?_⟩ <;> simp only [numN] <;> omega
def lowW (n:N5):Int:=(n.a + n.b * 67108864 + n.c * 4503599627370496) % 18446744073709551616
def highW (n:N5):Int:=(n.c / 4096 + n.d * 16384 + n.e * 1099511627776) % 18446744073709551616
theorem words_val {n:N5} (h:n.le 67108863):lowW n + 18446744073709551616 * highW n=n.val % 340282366920938463463374607431768211456:=by
 obtain ⟨h1,h2,h3,h4,h5⟩:=h
 unfold lowW highW N5.val
 omega
open Go.RowKit
def nRow (n:N5):Array Value:=#[.int .u64 n.a,.int .u64 n.b,.int .u64 n.c,.int .u64 n.d,.int .u64 n.e]
theorem nRow_one (n:N5):(nRow n).all (·.oneCell')=true:=by simp [nRow,Value.oneCell']
theorem zN (W:World):(zeroValue 183).run Tryz.prog W = .ok (.agg (nRow zeroN)) W:=by kernel_rfl
theorem i5_:(Tryz.prog.info? 183).map (·.size)=some 5:=by kernel_rfl
def lRow (l:List Int):Array Value:=(l.map (Value.int .u64)).toArray
theorem lRow_at (l:List Int) (i:Nat) (h:i < l.length):(lRow l)[i]? = some (.int .u64 (l.getD i 0)):=by
 simp [lRow,List.getD,h]
theorem lRow_set (l:List Int) (i:Nat) (x:Int):(lRow l).setIfInBounds i (.int .u64 x)=lRow (l.set i x):=by
 simp [lRow,List.map_set]
theorem idx5 (n:N5) (k:Nat) (hk:k < 5) (V:World) :
  (Instr.index 183 (.agg (nRow n)) (.int .i64 (k:Int))).run Tryz.prog V = .ok (.int .u64 (n.list.getD k 0)) V:=by
 rcases (by omega:k=0∨k=1∨k=2∨k=3∨k=4) with rfl | rfl | rfl | rfl | rfl <;> kernel_rfl
theorem and_mask (x:Int) (k:Nat) (m:Int) (hm:m + 1=((2 ^ k:Nat):Int)) (h0:0≤x) (h1:x≤18446744073709551615) (hk:k≤63):bits .and .u64 x m=x % (m + 1):=by
 obtain ⟨n,rfl⟩:=Int.eq_ofNat_of_zero_le h0
 have hp:2 ^ k≤2 ^ 63:=Nat.pow_le_pow_right (by omega) hk
 have hp0:0 < 2 ^ k:=Nat.pow_pos (by omega)
 have e63:(2:Nat) ^ 63=9223372036854775808:=by decide
 obtain ⟨q,rfl⟩:∃ q:Nat,m=(q:Int):=⟨2 ^ k - 1,by omega⟩
 have hq:q=2 ^ k - 1:=by omega
 have e:n &&& q=n % 2 ^ k:=by rw [hq];exact Nat.and_two_pow_sub_one_eq_mod n k
 show IntKind.u64.wrap ((BitVec.ofInt 64 (n:Int) &&& BitVec.ofInt 64 (q:Int)).toNat:Int)=_
 rw [BitVec.toNat_and,BitVec.ofInt_natCast,BitVec.ofInt_natCast,BitVec.toNat_ofNat,BitVec.toNat_ofNat,Nat.mod_eq_of_lt (by omega:n < 2 ^ 64),Nat.mod_eq_of_lt (by omega:q < 2 ^ 64),e,IntKind.wrap_u64,hm]
 have h2:n % 2 ^ k < 2 ^ k:=Nat.mod_lt _ hp0
 omega
theorem and26 (x:Int) (h0:0≤x) (h1:x≤18446744073709551615):bits .and .u64 x 67108863=x % 67108864:=and_mask x 26 67108863 (by decide) h0 h1 (by omega)
def cOver (n:N5):Nat→Int
 | 0=>0
 | 1=>c1 n
 | 2=>c2 n
 | 3=>c3 n
 | 4=>c4 n
 | _=>c5 n
def cRow (n:N5) (k:Nat):List Int:=(carryN n).list.take k ++ n.list.drop k
theorem cRow_len (n:N5) (k:Nat):(cRow n k).length=5:=by
 have h1:(carryN n).list.length=5:=rfl
 have h2:n.list.length=5:=rfl
 unfold cRow
 rw [List.length_append,List.length_take,List.length_drop,h1,h2]
 omega
theorem cRow_set (n:N5) (k:Nat) (hk:k < 5):(cRow n k).set k ((n.list.getD k 0 + cOver n k) % 67108864)=cRow n (k + 1):=by
 match k,hk with
 | 0,_=>simp [cRow,N5.list,carryN,cOver]
 | 1,_ | 2,_ | 3,_ | 4,_=>rfl
theorem cOver_next (n:N5) (k:Nat) (hk:k < 5):(n.list.getD k 0 + cOver n k) / 67108864=cOver n (k + 1):=by
 match k,hk with
 | 0,_=>simp [N5.list,cOver,c1]
 | 1,_ | 2,_ | 3,_ | 4,_=>rfl
theorem cOver_bd {n:N5} (h:n.le 1000000000000000000) (k:Nat):0≤cOver n k∧cOver n k≤15000000000:=by
 obtain ⟨h1,h2,h3,h4,h5⟩:=c_bd h (Int.le_refl _)
 match k with
 | 0=>show (0:Int)≤0∧(0:Int)≤15000000000;decide
 | 1=>exact h1
 | 2=>exact h2
 | 3=>exact h3
 | 4=>exact h4
 | k + 5=>exact h5
theorem results_cell_slotq {P:Program} {fn:Func} {p q:Tmp} {ty:TypeId} (h:fn.results = #[.cell p ty,.tmp q]) (tmps:Array Value) (w:World) (g:Nat) {v v':Value}
  (hp:tmps.getD p undef = .pointer (some ⟨g,0,none⟩)) (hq:tmps.getD q undef=v')
  (h1:(loadVar ty ⟨g,0,none⟩).run P w = .ok v w) :
  (results fn tmps).run P w = .ok (.tuple #[v,v']) w:=by
 have hp':tmps[p]?.getD undef = .pointer (some ⟨g,0,none⟩):=by simpa using hp
 have hq':tmps[q]?.getD undef=v':=by simpa using hq
 simp [results,h,hp',hq',asAddr,h1]
set_option maxHeartbeats 1000000 in
theorem carried_any (n:N5) (hn:n.le 1000000000000000000) (w:World) :
  Calls Tryz.prog 142 #[.agg (nRow n)] w fun e w'=>e = .returned (.tuple #[.agg (nRow (carryN n)),.int .u64 (c5 n)])∧Below w.heap.size w w':=by
 have hz:=zN
 have HN:=hid_ hn
 have e5:∀ m:N5,(Tryz.prog.info? 183).map (·.size)=some (nRow m).size:=fun m=>i5_
 have E5:=hid_ e5
 have a0:Bk ((w.alloc (.cells (nRow n) 183)).alloc (.cells (nRow zeroN) 183)) w.heap.size 183 (nRow n):=(Bk.new w _ _).alloc _
 have a1:Bk ((w.alloc (.cells (nRow n) 183)).alloc (.cells (nRow zeroN) 183)) (w.heap.size + 1) 183 (nRow zeroN):=by simpa using Bk.new (w.alloc (.cells (nRow n) 183)) 183 (nRow zeroN)
 have hb:Below w.heap.size w ((w.alloc (.cells (nRow n) 183)).alloc (.cells (nRow zeroN) 183)):=((Below.refl _ _).alloc (Nat.le_refl _) _).alloc (by simp) _
 have A0:=hid_ a0
 have A1:=hid_ a1
 have HB:=hid_ hb
 clear hn e5 a0 a1 hb
 go_enter Tryz.func142,Tryz.ntmps142
 go_wp2_with (refine wpList_load_row rfl 183 (.tmp 1) rfl w.heap.size rfl 183 (nRow n) (0,0) _ A0.out Tryz.underlying183 rfl (E5.out n) ?_)
 go_loopw [4,8] (fun o i wr=>∃ k:Nat,k≤5∧i = .int .i64 k∧o = .int .u64 (cOver n k)∧Bk wr w.heap.size 183 (lRow (cRow n k))∧Bk wr (w.heap.size + 1) 183 (nRow zeroN)∧Below w.heap.size w wr) (fun _ i _=>5 - (intOf i).toNat)
 case atStart=>exact ⟨0,by omega,rfl,rfl,A0.out,A1.out,HB.out⟩
 case round =>
  obtain ⟨k,hk,rfl,rfl,b0,b1,bb⟩:=hrel
  have B0:=hid_ b0
  have B1:=hid_ b1
  have BB:=hid_ bb
  clear b0 b1 bb A0 A1 HB
  by_cases hlt:k < 5
  ·have hix:=idx5 n k hlt
   have hx:=HN.out.get (by decide) k
   have ho:=cOver_bd HN.out k
   have hc:=B0.out.cell k
   rw [lRow_at _ _ (by rw [cRow_len];exact hlt)] at hc
   have hf:=B0.out.frozen k
   have hset:=B0.out.set_ k (.int .u64 ((n.list.getD k 0 + cOver n k) % 67108864))
   rw [lRow_set,cRow_set n k hlt] at hset
   have hnx:=cOver_next n k hlt
   have hand:=and26 (n.list.getD k 0 + cOver n k) (by omega) (by omega)
   obtain ⟨x,hxe⟩:∃ x,Hid (n.list.getD k 0=x):=⟨_,rfl⟩
   obtain ⟨o,hoe⟩:∃ o,Hid (cOver n k=o):=⟨_,rfl⟩
   rw [hxe.out] at hix hx hset hnx hand
   rw [hoe.out] at ho hset hnx hand ⊢
   have HS:=hid_ hset
   have HNX:=hid_ hnx
   have t0:(0:Int)≤(k:Int):=by omega
   have t5:(k:Int) < 5:=by omega
   clear hset hnx
   go_wp2
   go_roundw
   case rel=>exact ⟨k + 1,by omega,by go_num,by rw [← HNX.out],HS.out,B1.out.far (by simp) _,BB.out.setCell (by simp) _⟩
   case measure=>simp [intOf];omega
  ·have hk5:k=5:=by omega
   have he:lRow (cRow n k)=nRow (carryN n):=by rw [hk5];rfl
   have ho:cOver n k=c5 n:=by rw [hk5];rfl
   have B2:=B0.out
   rw [he] at B2
   rw [ho]
   clear hk5 he ho
   go_wp2_with (first
    | (refine wpList_load_row rfl 183 (.tmp 1) rfl w.heap.size rfl 183 (nRow (carryN n)) (0,0) _ B2 Tryz.underlying183 rfl (E5.out _) ?_)
    | (refine wpList_put_row rfl 183 (.tmp 2) (.tmp 22) rfl (w.heap.size + 1) (nRow (carryN n)) rfl rfl 183 (nRow zeroN) B1.out (E5.out _) rfl (nRow_one _) ?_;intro w9 k9 g9 s9))
   exact bodyPost_ret (results_cell_slotq Tryz.results142 _ _ (w.heap.size + 1) rfl rfl (run_loadVar_row _ _ _ _ _ (0,0) _ k9 Tryz.underlying183 rfl (E5.out _))) rfl ⟨rfl,BB.out.grown g9 (by have:=B1.out.lt;omega) (fun k hk=>by injection hk with hk;omega)⟩
def pRow (n m:N5) (k:Nat):List Int:=(addN n m).list.take k ++ n.list.drop k
theorem pRow_len (n m:N5) (k:Nat):(pRow n m k).length=5:=by
 have h1:(addN n m).list.length=5:=rfl
 have h2:n.list.length=5:=rfl
 unfold pRow
 rw [List.length_append,List.length_take,List.length_drop,h1,h2]
 omega
theorem pRow_get (n m:N5) (k:Nat) (hk:k < 5):(pRow n m k).getD k 0=n.list.getD k 0:=by
 match k,hk with
 | 0,_ | 1,_ | 2,_ | 3,_ | 4,_=>rfl
theorem pRow_set (n m:N5) (k:Nat) (hk:k < 5):(pRow n m k).set k (n.list.getD k 0 + m.list.getD k 0)=pRow n m (k + 1):=by
 match k,hk with
 | 0,_ | 1,_ | 2,_ | 3,_ | 4,_=>rfl
set_option maxHeartbeats 1000000 in
theorem plus_any (n m:N5) (hn:n.le 1000000000000000000) (hm:m.le 1000000000000000000) (w:World) :
  Calls Tryz.prog 125 #[.agg (nRow n),.agg (nRow m)] w fun e w'=>e = .returned (.agg (nRow (addN n m)))∧Below w.heap.size w w':=by
 have hz:=zN
 have HN:=hid_ hn
 have HM:=hid_ hm
 have e5:∀ m:N5,(Tryz.prog.info? 183).map (·.size)=some (nRow m).size:=fun m=>i5_
 have E5:=hid_ e5
 have a0:Bk (((w.alloc (.cells (nRow n) 183)).alloc (.cells (nRow m) 183)).alloc (.cells (nRow zeroN) 183)) w.heap.size 183 (nRow n):=((Bk.new w _ _).alloc _).alloc _
 have a1:Bk (((w.alloc (.cells (nRow n) 183)).alloc (.cells (nRow m) 183)).alloc (.cells (nRow zeroN) 183)) (w.heap.size + 1) 183 (nRow m):=by simpa using (Bk.new (w.alloc (.cells (nRow n) 183)) 183 (nRow m)).alloc (.cells (nRow zeroN) 183)
 have a2:Bk (((w.alloc (.cells (nRow n) 183)).alloc (.cells (nRow m) 183)).alloc (.cells (nRow zeroN) 183)) (w.heap.size + 1 + 1) 183 (nRow zeroN):=by simpa using Bk.new ((w.alloc (.cells (nRow n) 183)).alloc (.cells (nRow m) 183)) 183 (nRow zeroN)
 have hb:Below w.heap.size w (((w.alloc (.cells (nRow n) 183)).alloc (.cells (nRow m) 183)).alloc (.cells (nRow zeroN) 183)):=(((Below.refl _ _).alloc (Nat.le_refl _) _).alloc (by simp) _).alloc (by simp;omega) _
 have A0:=hid_ a0
 have A1:=hid_ a1
 have A2:=hid_ a2
 have HB:=hid_ hb
 clear hn hm e5 a0 a1 a2 hb
 go_enter Tryz.func125,Tryz.ntmps125
 go_wp2_with (refine wpList_load_row rfl 183 (.tmp 3) rfl (w.heap.size + 1) rfl 183 (nRow m) (0,0) _ A1.out Tryz.underlying183 rfl (E5.out m) ?_)
 go_loopw [8] (fun i wr=>∃ k:Nat,k≤5∧i = .int .i64 k∧Bk wr w.heap.size 183 (lRow (pRow n m k))∧Bk wr (w.heap.size + 1 + 1) 183 (nRow zeroN)∧Below w.heap.size w wr) (fun i _=>5 - (intOf i).toNat)
 case atStart=>exact ⟨0,by omega,rfl,A0.out,A2.out,HB.out⟩
 case round =>
  obtain ⟨k,hk,rfl,b0,b1,bb⟩:=hrel
  have B0:=hid_ b0
  have B1:=hid_ b1
  have BB:=hid_ bb
  clear b0 b1 bb A0 A1 A2 HB
  by_cases hlt:k < 5
  ·have hix:=idx5 m k hlt
   have hx:=HN.out.get (by decide) k
   have ho:=HM.out.get (by decide) k
   have hc:=B0.out.cell k
   rw [lRow_at _ _ (by rw [pRow_len];exact hlt),pRow_get n m k hlt] at hc
   have hf:=B0.out.frozen k
   have hset:=B0.out.set_ k (.int .u64 (n.list.getD k 0 + m.list.getD k 0))
   rw [lRow_set,pRow_set n m k hlt] at hset
   obtain ⟨x,hxe⟩:∃ x,Hid (n.list.getD k 0=x):=⟨_,rfl⟩
   obtain ⟨o,hoe⟩:∃ o,Hid (m.list.getD k 0=o):=⟨_,rfl⟩
   rw [hxe.out] at hx hc hset
   rw [hoe.out] at ho hix hset
   have HS:=hid_ hset
   have t0:(0:Int)≤(k:Int):=by omega
   have t5:(k:Int) < 5:=by omega
   clear hset
   go_wp2
   go_roundw
   case rel=>exact ⟨k + 1,by omega,by go_num,HS.out,B1.out.far (by simp <;> omega) _,BB.out.setCell (by simp) _⟩
   case measure=>simp [intOf];omega
  ·have hk5:k=5:=by omega
   have he:lRow (pRow n m k)=nRow (addN n m):=by rw [hk5];rfl
   have B2:=B0.out
   rw [he] at B2
   clear hk5 he
   go_wp2_with (first
    | (refine wpList_load_row rfl 183 (.tmp 2) rfl w.heap.size rfl 183 (nRow (addN n m)) (0,0) _ B2 Tryz.underlying183 rfl (E5.out _) ?_)
    | (refine wpList_put_row rfl 183 (.tmp 4) (.tmp 19) rfl (w.heap.size + 1 + 1) (nRow (addN n m)) rfl rfl 183 (nRow zeroN) B1.out (E5.out _) rfl (nRow_one _) ?_;intro w9 k9 g9 s9))
   exact bodyPost_ret (results_cell_row Tryz.results125 _ _ (w.heap.size + 1 + 1) 183 _ (0,0) _ rfl k9 Tryz.underlying183 rfl (E5.out _)) rfl ⟨rfl,BB.out.grown g9 (by have:=B1.out.lt;omega) (fun k hk=>by injection hk with hk;omega)⟩
def redIter (n:N5):Nat→N5
 | 0=>n
 | k + 1=>redN1 (redIter n k)
theorem redIter_le {n:N5} (h:n.le 1000000000000000000):∀ k,(redIter n k).le 1000000000000000000
 | 0=>h
 | k + 1=>(redN1_le (redIter_le h k)).mono (by decide)
set_option maxHeartbeats 1000000 in
theorem reduced_any (n:N5) (hn:n.le 1000000000000000000) (w:World) :
  Calls Tryz.prog 141 #[.agg (nRow n)] w fun e w'=>e = .returned (.agg (nRow (redN n)))∧Below w.heap.size w w':=by
 have hz:=zN
 have HN:=hid_ hn
 have e5:∀ m:N5,(Tryz.prog.info? 183).map (·.size)=some (nRow m).size:=fun m=>i5_
 have E5:=hid_ e5
 have a0:Bk ((w.alloc (.cells (nRow n) 183)).alloc (.cells (nRow zeroN) 183)) w.heap.size 183 (nRow n):=(Bk.new w _ _).alloc _
 have a1:Bk ((w.alloc (.cells (nRow n) 183)).alloc (.cells (nRow zeroN) 183)) (w.heap.size + 1) 183 (nRow zeroN):=by simpa using Bk.new (w.alloc (.cells (nRow n) 183)) 183 (nRow zeroN)
 have hb:Below w.heap.size w ((w.alloc (.cells (nRow n) 183)).alloc (.cells (nRow zeroN) 183)):=((Below.refl _ _).alloc (Nat.le_refl _) _).alloc (by simp) _
 have A0:=hid_ a0
 have A1:=hid_ a1
 have HB:=hid_ hb
 clear hn e5 a0 a1 hb
 go_enter Tryz.func141,Tryz.ntmps141
 go_wp2
 go_loopw [5] (fun i wr=>∃ k:Nat,k≤2∧i = .int .i64 k∧Bk wr w.heap.size 183 (nRow (redIter n k))∧Bk wr (w.heap.size + 1) 183 (nRow zeroN)∧Below w.heap.size w wr) (fun i _=>2 - (intOf i).toNat)
 case atStart=>exact ⟨0,by omega,rfl,A0.out,A1.out,HB.out⟩
 case round =>
  obtain ⟨k,hk,rfl,b0,b1,bb⟩:=hrel
  have B0:=hid_ b0
  have B1:=hid_ b1
  have BB:=hid_ bb
  clear b0 b1 bb A0 A1 HB
  by_cases hlt:k < 2
  ·have hle:=redIter_le HN.out k
   have hcl:=carryN_le (redIter n k)
   have hc5:=(c_bd hle (Int.le_refl _)).2.2.2.2
   have cc:=fun W=>carried_any (redIter n k) hle W
   have hrd:redIter n (k + 1)=redN1 (redIter n k):=rfl
   generalize redIter n k=q at B0 hle hcl hc5 cc hrd
   obtain ⟨p,hp⟩:∃ p,Hid (carryN q=p):=⟨_,rfl⟩
   obtain ⟨o,ho⟩:∃ o,Hid (c5 q=o):=⟨_,rfl⟩
   have hnx:redIter n (k + 1)=⟨p.a + 5 * o,p.b,p.c,p.d,p.e⟩:=by rw [hrd,← hp.out,← ho.out];rfl
   have HNX:=hid_ hnx
   rw [hp.out] at cc hcl
   rw [ho.out] at cc hc5
   have hpa:=hcl.a
   clear hrd hnx hle hcl
   go_wp2_with (first
    | (refine wpList_load_row rfl 183 (.tmp 1) rfl w.heap.size rfl 183 (nRow q) (0,0) _ B0.out Tryz.underlying183 rfl (E5.out _) ?_)
    | (go_at_call 142;((with_reducible refine (cc _).mono ?_);rintro e w1 ⟨rfl,hb1⟩))
    | (refine wpList_put_row rfl 183 (.tmp 3) (.tmp 10) rfl w1.heap.size (nRow p) rfl rfl 183 (nRow zeroN) (Bk.new w1 _ _) (E5.out _) rfl (nRow_one _) ?_;intro w2 k2 g2 s2;have c0:w2.cell? ⟨w1.heap.size,0,none⟩=some (.int .u64 p.a):=k2.cell 0;have f0:=k2.frozen 0;have q2:Bk (w2.setCell ⟨w1.heap.size,0,none⟩ (.int .u64 (p.a + 5 * o))) w1.heap.size 183 (nRow ⟨p.a + 5 * o,p.b,p.c,p.d,p.e⟩):=k2.set_ 0 (.int .u64 (p.a + 5 * o));have K2:=hid_ q2;clear q2;have hl1:=hb1.size;have hw0:=B0.out.lt;have hw1:=B1.out.lt;have B3:=hid_ ((((B0.out.below hb1 hw0).alloc (.cells (nRow zeroN) 183)).grown g2 (fun e=>by injection e with e;omega)).far (p:=⟨w1.heap.size,0,none⟩) (by show w.heap.size≠w1.heap.size;omega) (.int .u64 (p.a + 5 * o)));have B4:=hid_ ((((B1.out.below hb1 hw1).alloc (.cells (nRow zeroN) 183)).grown g2 (fun e=>by injection e with e;omega)).far (p:=⟨w1.heap.size,0,none⟩) (by show w.heap.size + 1≠w1.heap.size;omega) (.int .u64 (p.a + 5 * o)));have X1:=BB.out.trans (hb1.mono BB.out.size);have X4:=hid_ (((X1.alloc X1.size (.cells (nRow zeroN) 183)).grown g2 (by have:=X1.size;simp;omega) (fun i hi=>by injection hi with hi;have:=X1.size;omega)).setCell (p:=⟨w1.heap.size,0,none⟩) X1.size (.int .u64 (p.a + 5 * o)));clear X1)
    | (refine wpList_load_row rfl 183 (.tmp 3) rfl w1.heap.size rfl 183 (nRow ⟨p.a + 5 * o,p.b,p.c,p.d,p.e⟩) (0,0) _ K2.out Tryz.underlying183 rfl (E5.out _) ?_)
    | (refine wpList_put_row rfl 183 (.tmp 1) (.tmp 18) rfl w.heap.size (nRow ⟨p.a + 5 * o,p.b,p.c,p.d,p.e⟩) rfl rfl 183 (nRow q) B3.out (E5.out _) rfl (nRow_one _) ?_;intro w3 k3 g3 s3))
   rw [← HNX.out] at k3
   go_roundw
   case rel=>exact ⟨k + 1,by omega,by go_num,k3,B4.out.grown g3 (fun e=>by injection e with e;omega),X4.out.grown g3 (by have:=X4.out.size;omega) (fun i hi=>by injection hi with hi;omega)⟩
   case measure=>simp [intOf];omega
  ·have hk2:k=2:=by omega
   have he:nRow (redIter n k)=nRow (redN n):=by rw [hk2];rfl
   have B2:=B0.out
   rw [he] at B2
   clear hk2 he
   go_wp2_with (first
    | (refine wpList_load_row rfl 183 (.tmp 1) rfl w.heap.size rfl 183 (nRow (redN n)) (0,0) _ B2 Tryz.underlying183 rfl (E5.out _) ?_)
    | (refine wpList_put_row rfl 183 (.tmp 2) (.tmp 20) rfl (w.heap.size + 1) (nRow (redN n)) rfl rfl 183 (nRow zeroN) B1.out (E5.out _) rfl (nRow_one _) ?_;intro w9 k9 g9 s9))
   exact bodyPost_ret (results_cell_row Tryz.results141 _ _ (w.heap.size + 1) 183 _ (0,0) _ rfl k9 Tryz.underlying183 rfl (E5.out _)) rfl ⟨rfl,BB.out.grown g9 (by have:=B1.out.lt;omega) (fun k hk=>by injection hk with hk;omega)⟩
def tStep (i j:Nat) (x y:Int) (L:List Int):List Int :=
 if i + j < 5 then L.set (i + j) (L.getD (i + j) 0 + x * y) else L.set (i + j - 5) (L.getD (i + j - 5) 0 + x * y * 5)
def tAcc (n m:N5):Nat→List Int
 | 0=>[0,0,0,0,0]
 | k + 1=>tStep (k / 5) (k % 5) (n.list.getD (k / 5) 0) (m.list.getD (k % 5) 0) (tAcc n m k)
theorem tStep_len (i j:Nat) (x y:Int) (L:List Int):(tStep i j x y L).length=L.length:=by unfold tStep;split <;> simp
theorem tAcc_len (n m:N5):∀ k,(tAcc n m k).length=5
 | 0=>rfl
 | k + 1=>by rw [tAcc,tStep_len,tAcc_len n m k]
theorem getD_setIq (l:List Int) (i j:Nat) (x:Int) (hi:i < l.length):(l.set i x).getD j 0=if i=j then x else l.getD j 0:=by
 by_cases h:i=j
 ·subst h;simp [List.getD,hi]
 ·simp [List.getD,h]
theorem tAcc_bd {n m:N5} (hn:n.le 268435456) (hm:m.le 67108863):∀ k q:Nat,0≤(tAcc n m k).getD q 0∧(tAcc n m k).getD q 0≤(k:Int) * 90071991205232640
 | 0,q=>by
  rcases (by omega:q=0∨q=1∨q=2∨q=3∨q=4∨5≤q) with rfl | rfl | rfl | rfl | rfl | h <;> first | (simp [tAcc];done) | skip
  have:(tAcc n m 0).getD q 0=0:=by
   have hl:(tAcc n m 0).length=5:=rfl
   simp [List.getD,List.getElem?_eq_none (by omega:(tAcc n m 0).length≤q)]
  omega
 | k + 1,q=>by
  have ih:=tAcc_bd hn hm k
  have hx:=hn.get (by decide) (k / 5)
  have hy:=hm.get (by decide) (k % 5)
  have hxy:=mul_bd hx hy
  have e:(268435456:Int) * 67108863=18014398241046528:=by decide
  rw [e] at hxy
  have hl:=tAcc_len n m k
  have ek:((k + 1:Nat):Int) * 90071991205232640=(k:Int) * 90071991205232640 + 90071991205232640:=by rw [Int.natCast_add,Int.add_mul];rfl
  rw [ek]
  have hq:=ih q
  have hk0:0≤(k:Int) * 90071991205232640:=by omega
  rw [tAcc]
  unfold tStep
  by_cases h5:k / 5 + k % 5 < 5
  ·rw [if_pos h5,getD_setIq _ _ _ _ (by rw [hl];exact h5)]
   have h6:=ih (k / 5 + k % 5)
   by_cases hqe:k / 5 + k % 5=q
   ·rw [if_pos hqe];omega
   ·rw [if_neg hqe];omega
  ·rw [if_neg h5]
   have h6:=ih (k / 5 + k % 5 - 5)
   by_cases hin:k / 5 + k % 5 - 5 < 5
   ·rw [getD_setIq _ _ _ _ (by rw [hl];exact hin)]
    by_cases hqe:k / 5 + k % 5 - 5=q
    ·rw [if_pos hqe];omega
    ·rw [if_neg hqe];omega
   ·rw [List.set_eq_of_length_le (by rw [hl];omega)];omega
theorem tAcc_end (n m:N5):tAcc n m 25=(mulN n m).list:=by
 have h:tAcc n m 25 = [0 + n.a * m.a + n.b * m.e * 5 + n.c * m.d * 5 + n.d * m.c * 5 + n.e * m.b * 5,
   0 + n.a * m.b + n.b * m.a + n.c * m.e * 5 + n.d * m.d * 5 + n.e * m.c * 5,
   0 + n.a * m.c + n.b * m.b + n.c * m.a + n.d * m.e * 5 + n.e * m.d * 5,
   0 + n.a * m.d + n.b * m.c + n.c * m.b + n.d * m.a + n.e * m.e * 5,
   0 + n.a * m.e + n.b * m.d + n.c * m.c + n.d * m.b + n.e * m.a]:=by simp [tAcc,tStep,N5.list]
 refine h.trans ?_
 have g:∀ p q r s t p' q' r' s' t':Int,p=p'→q=q'→r=r'→s=s'→t=t'→[p,q,r,s,t] = [p',q',r',s',t']:=by
  rintro _ _ _ _ _ _ _ _ _ _ rfl rfl rfl rfl rfl;rfl
 exact g _ _ _ _ _ _ _ _ _ _ (by simp only [mulN];omega) (by simp only [mulN];omega) (by simp only [mulN];omega) (by simp only [mulN];omega) (by simp only [mulN];omega)
set_option maxHeartbeats 1000000 in
theorem times_any (n m:N5) (hn:n.le 268435456) (hm:m.le 67108863) (w:World) :
  Calls Tryz.prog 127 #[.agg (nRow n),.agg (nRow m)] w fun e w'=>e = .returned (.agg (nRow (redN (mulN n m))))∧Below w.heap.size w w':=by
 have hz:=zN
 have cr:=fun W=>reduced_any (mulN n m) ((mulN_le hn hm).mono (by decide)) W
 have HN:=hid_ hn
 have HM:=hid_ hm
 have e5:∀ m:N5,(Tryz.prog.info? 183).map (·.size)=some (nRow m).size:=fun m=>i5_
 have E5:=hid_ e5
 obtain ⟨w0,hw0⟩:∃ w0,Hid ((((w.alloc (.cells (nRow n) 183)).alloc (.cells (nRow m) 183)).alloc (.cells (nRow zeroN) 183)).alloc (.cells (nRow zeroN) 183)=w0):=⟨_,rfl⟩
 have a0:Bk w0 w.heap.size 183 (nRow n):=by rw [← hw0.out];exact (((Bk.new w _ _).alloc _).alloc _).alloc _
 have a1:Bk w0 (w.heap.size + 1) 183 (nRow m):=by rw [← hw0.out];simpa using ((Bk.new (w.alloc (.cells (nRow n) 183)) 183 (nRow m)).alloc (.cells (nRow zeroN) 183)).alloc (.cells (nRow zeroN) 183)
 have a2:Bk w0 (w.heap.size + 1 + 1) 183 (nRow zeroN):=by rw [← hw0.out];simpa using (Bk.new ((w.alloc (.cells (nRow n) 183)).alloc (.cells (nRow m) 183)) 183 (nRow zeroN)).alloc (.cells (nRow zeroN) 183)
 have a3:Bk w0 (w.heap.size + 1 + 1 + 1) 183 (nRow zeroN):=by rw [← hw0.out];simpa using Bk.new (((w.alloc (.cells (nRow n) 183)).alloc (.cells (nRow m) 183)).alloc (.cells (nRow zeroN) 183)) 183 (nRow zeroN)
 have hb:Below w.heap.size w w0:=by rw [← hw0.out];exact ((((Below.refl _ _).alloc (Nat.le_refl _) _).alloc (by simp) _).alloc (by simp;omega) _).alloc (by simp;omega) _
 have A0:=hid_ a0
 have A1:=hid_ a1
 have A2:=hid_ a2
 have A3:=hid_ a3
 have HB:=hid_ hb
 clear hn hm e5 a0 a1 a2 a3 hb
 go_enter Tryz.func127,Tryz.ntmps127
 go_upto_region 2 with fail
 rw [hw0.out]
 go_wp2_with (refine wpList_load_row rfl 183 (.tmp 2) rfl w.heap.size rfl 183 (nRow n) (0,0) _ A0.out Tryz.underlying183 rfl (E5.out n) ?_)
 go_loopw [11] (fun i wr=>∃ k:Nat,k≤5∧i = .int .i64 k∧Bk wr (w.heap.size + 1) 183 (nRow m)∧Bk wr (w.heap.size + 1 + 1) 183 (nRow zeroN)∧Bk wr (w.heap.size + 1 + 1 + 1) 183 (lRow (tAcc n m (5 * k)))∧Below w.heap.size w wr) (fun i _=>5 - (intOf i).toNat)
 case atStart=>exact ⟨0,by omega,rfl,A1.out,A2.out,A3.out,HB.out⟩
 case round =>
  obtain ⟨k,hk,rfl,b1,b2,b3,bb⟩:=hrel
  have B1:=hid_ b1
  have B2:=hid_ b2
  have B3:=hid_ b3
  have BB:=hid_ bb
  clear b1 b2 b3 bb A0 A1 A2 A3 HB
  by_cases hlt:k < 5
  ·have hix:=idx5 n k hlt
   have hx:=HN.out.get (by decide) k
   obtain ⟨x,hxe⟩:∃ x,Hid (n.list.getD k 0=x):=⟨_,rfl⟩
   rw [hxe.out] at hix hx
   have t0:(0:Int)≤(k:Int):=by omega
   have t5:(k:Int) < 5:=by omega
   go_wp2_with (refine wpList_load_row rfl 183 (.tmp 3) rfl (w.heap.size + 1) rfl 183 (nRow m) (0,0) _ B1.out Tryz.underlying183 rfl (E5.out m) ?_)
   clear hix
   go_loopw [16] (fun i wr=>∃ j:Nat,j≤5∧i = .int .i64 j∧Bk wr (w.heap.size + 1) 183 (nRow m)∧Bk wr (w.heap.size + 1 + 1) 183 (nRow zeroN)∧Bk wr (w.heap.size + 1 + 1 + 1) 183 (lRow (tAcc n m (5 * k + j)))∧Below w.heap.size w wr) (fun i _=>5 - (intOf i).toNat)
   case atStart=>exact ⟨0,by omega,rfl,B1.out,B2.out,B3.out,BB.out⟩
   case round =>
    obtain ⟨j,hj,rfl,b1,b2,b3,bb⟩:=hrel
    have C1:=hid_ b1
    have C2:=hid_ b2
    have C3:=hid_ b3
    have CB:=hid_ bb
    clear b1 b2 b3 bb B1 B2 B3 BB
    by_cases hltj:j < 5
    ·have hix:=idx5 m j hltj
     have hy:=HM.out.get (by decide) j
     have e1:(5 * k + j) / 5=k:=by omega
     have e2:(5 * k + j) % 5=j:=by omega
     have hbd:=tAcc_bd HN.out HM.out (5 * k + j)
     have hxy:=mul_bd (HN.out.get (by decide) k) hy
     have e3:(268435456:Int) * 67108863=18014398241046528:=by decide
     rw [e3,hxe.out] at hxy
     have hnx:tAcc n m (5 * k + (j + 1))=tStep k j (n.list.getD k 0) (m.list.getD j 0) (tAcc n m (5 * k + j)):=by
      show tAcc n m (5 * k + j + 1)=_
      rw [tAcc,e1,e2]
     rw [hxe.out] at hnx
     have hl:=tAcc_len n m (5 * k + j)
     have hkj:((5 * k + j:Nat):Int)≤24:=by omega
     obtain ⟨y,hye⟩:∃ y,Hid (m.list.getD j 0=y):=⟨_,rfl⟩
     rw [hye.out] at hix hy hnx hxy
     have HNX:=hid_ hnx
     generalize tAcc n m (5 * k + j)=L at C3 hbd hl HNX
     clear hnx
     have t0:(0:Int)≤(j:Int):=by omega
     have t5:(j:Int) < 5:=by omega
     by_cases h5:k + j < 5
     ·have d5:(k:Int) + (j:Int) < 5:=by omega
      have hc:=C3.out.cell (k + j)
      rw [lRow_at _ _ (by rw [hl];exact h5)] at hc
      have hf:=C3.out.frozen (k + j)
      have hs:=C3.out.set_ (k + j) (.int .u64 (L.getD (k + j) 0 + x * y))
      have hv:=hbd (k + j)
      have hnx2:tStep k j x y L=L.set (k + j) (L.getD (k + j) 0 + x * y):=by unfold tStep;rw [if_pos h5]
      rw [lRow_set,← hnx2,← HNX.out] at hs
      have HS:=hid_ hs
      generalize L.getD (k + j) 0=z at hc hv HS
      obtain ⟨p,hp⟩:∃ p,Hid (x * y=p):=⟨_,rfl⟩
      have hm1:IntKind.u64.wrap (x * y)=x * y:=IntWalk.u64_in _ (by omega)
      have hz2:z≤24 * 90071991205232640:=by omega
      have hm2:IntKind.u64.wrap (z + x * y)=z + x * y:=IntWalk.u64_in _ (by omega)
      clear hnx2 hs hbd hv
      go_wp2
      exact ⟨⟨j + 1,by omega,by go_num,C1.out.far (by simp <;> omega) _,C2.out.far (by simp <;> omega) _,HS.out,CB.out.setCell (by simp <;> omega) _⟩,by simp [intOf];omega⟩
     ·have d5:¬ (k:Int) + (j:Int) < 5:=by omega
      have hi5:k + j - 5 < 5:=by omega
      have hc:=C3.out.cell (k + j - 5)
      rw [lRow_at _ _ (by rw [hl];exact hi5)] at hc
      have hf:=C3.out.frozen (k + j - 5)
      have hs:=C3.out.set_ (k + j - 5) (.int .u64 (L.getD (k + j - 5) 0 + x * y * 5))
      have hv:=hbd (k + j - 5)
      have hnx2:tStep k j x y L=L.set (k + j - 5) (L.getD (k + j - 5) 0 + x * y * 5):=by unfold tStep;rw [if_neg h5]
      rw [lRow_set,← hnx2,← HNX.out] at hs
      have HS:=hid_ hs
      generalize L.getD (k + j - 5) 0=z at hc hv HS
      have hm1:IntKind.u64.wrap (x * y)=x * y:=IntWalk.u64_in _ (by omega)
      have hm3:IntKind.u64.wrap (x * y * 5)=x * y * 5:=IntWalk.u64_in _ (by omega)
      have hz2:z≤24 * 90071991205232640:=by omega
      have hm2:IntKind.u64.wrap (z + x * y * 5)=z + x * y * 5:=IntWalk.u64_in _ (by omega)
      have w5:IntKind.i64.wrap ((k:Int) + (j:Int) - 5)=(k:Int) + (j:Int) - 5:=IntWalk.i64_in _ (by omega)
      have b5:(0:Int)≤(k:Int) + (j:Int) - 5:=by omega
      have u5:(k:Int) + (j:Int) - 5 < 5:=by omega
      have n5:((k:Int) + (j:Int) - 5).toNat=k + j - 5:=by omega
      clear hnx2 hs hbd hv
      go_wp2
      exact ⟨⟨j + 1,by omega,by go_num,C1.out.far (by simp <;> omega) _,C2.out.far (by simp <;> omega) _,HS.out,CB.out.setCell (by simp <;> omega) _⟩,by simp [intOf];omega⟩
    ·have hj5:j=5:=by omega
     have C4:=C3.out
     rw [show 5 * k + j=5 * (k + 1) by omega] at C4
     clear hj5
     go_wp2
     go_roundw
     case rel=>exact ⟨k + 1,by omega,by go_num,C1.out,C2.out,C4,CB.out⟩
     case measure=>simp [intOf];omega
  ·have hk5:k=5:=by omega
   have he:lRow (tAcc n m (5 * k))=nRow (mulN n m):=by rw [hk5,tAcc_end];rfl
   have B4:=B3.out
   rw [he] at B4
   clear hk5 he
   go_wp2_with (first
    | (refine wpList_load_row rfl 183 (.tmp 5) rfl (w.heap.size + 1 + 1 + 1) rfl 183 (nRow (mulN n m)) (0,0) _ B4 Tryz.underlying183 rfl (E5.out _) ?_)
    | (go_at_call 141;((with_reducible refine (cr _).mono ?_);rintro e w1 ⟨rfl,hb1⟩);have B5:=B2.out.below hb1 B2.out.lt;have hs1:=hb1.size)
    | (refine wpList_put_row rfl 183 (.tmp 4) (.tmp 49) rfl (w.heap.size + 1 + 1) (nRow (redN (mulN n m))) rfl rfl 183 (nRow zeroN) B5 (E5.out _) rfl (nRow_one _) ?_;intro w9 k9 g9 s9))
   have X1:=BB.out.trans (hb1.mono BB.out.size)
   exact bodyPost_ret (results_cell_row Tryz.results127 _ _ (w.heap.size + 1 + 1) 183 _ (0,0) _ rfl k9 Tryz.underlying183 rfl (E5.out _)) rfl ⟨rfl,X1.grown g9 X1.size (fun k hk=>by injection hk with hk;omega)⟩
set_option maxHeartbeats 1000000 in
theorem numberOf_any (low high top:Nat) (h1:low≤18446744073709551615) (h2:high≤18446744073709551615) (h3:top≤3) (w:World) :
  Calls Tryz.prog 124 #[.int .u64 (low:Int),.int .u64 (high:Int),.int .u64 (top:Int)] w fun e w'=>e = .returned (.agg (nRow (numN low high top)))∧Below w.heap.size w w':=by
 have hz:=zN
 have e5:∀ m:N5,(Tryz.prog.info? 183).map (·.size)=some (nRow m).size:=fun m=>i5_
 have E5:=hid_ e5
 clear e5
 have d1:=and26 (low:Int) (by omega) (by omega)
 have d2:=and26 ((low:Int) / 67108864) (by omega) (by omega)
 have o1:bits .or .u64 ((low:Int) / 4503599627370496) ((high:Int) * 4096 % 18446744073709551616)=(low:Int) / 4503599627370496 + (high:Int) * 4096 % 18446744073709551616:=by
  have h:=or_u64_add' (high * 4096 % 18446744073709551616) (low / 4503599627370496) (high % 4503599627370496) 12 (by omega) (by omega) (by omega)
  have e1:((high * 4096 % 18446744073709551616:Nat):Int)=(high:Int) * 4096 % 18446744073709551616:=by omega
  have e2:((low / 4503599627370496:Nat):Int)=(low:Int) / 4503599627370496:=by omega
  rw [Int.natCast_add,e1,e2] at h
  exact h
 have s1:IntKind.u64.wrap ((high:Int) * 4096)=(high:Int) * 4096 % 18446744073709551616:=by rw [IntKind.wrap_u64]
 have d3:=and26 ((low:Int) / 4503599627370496 + (high:Int) * 4096 % 18446744073709551616) (by omega) (by omega)
 have d4:=and26 ((high:Int) / 16384) (by omega) (by omega)
 have o2:bits .or .u64 ((high:Int) / 1099511627776) ((top:Int) * 16777216)=(high:Int) / 1099511627776 + (top:Int) * 16777216:=by
  have h:=or_u64_add' (top * 16777216) (high / 1099511627776) top 24 (by omega) (by omega) (by omega)
  have e1:((top * 16777216:Nat):Int)=(top:Int) * 16777216:=by omega
  have e2:((high / 1099511627776:Nat):Int)=(high:Int) / 1099511627776:=by omega
  rw [Int.natCast_add,e1,e2] at h
  exact h
 have hrow:nRow (numN low high top) = #[.int .u64 ((low:Int) % 67108864),.int .u64 ((low:Int) / 67108864 % 67108864),.int .u64 (((low:Int) / 4503599627370496 + (high:Int) * 4096 % 18446744073709551616) % 67108864),.int .u64 ((high:Int) / 16384 % 67108864),.int .u64 ((high:Int) / 1099511627776 + (top:Int) * 16777216)]:=by
  have e1:((low:Int) / 4503599627370496 + (high:Int) * 4096 % 18446744073709551616) % 67108864=(low:Int) / 4503599627370496 + (high:Int) % 16384 * 4096:=by omega
  rw [e1]
  rfl
 have HROW:=hid_ hrow
 clear hrow
 go_enter Tryz.func124,Tryz.ntmps124
 go_wp2_with (first
  | (refine wpList_built rfl 183 _ rfl (nRow (numN low high top)) (by rw [HROW.out];kernel_rfl) ?_)
  | (refine wpList_put_row rfl 183 (.tmp 6) (.tmp 26) rfl w.heap.size (nRow (numN low high top)) rfl rfl 183 (nRow zeroN) (Bk.new w _ _) (E5.out _) rfl (nRow_one _) ?_;intro w9 k9 g9 s9))
 exact bodyPost_ret (results_cell_row Tryz.results124 _ _ w.heap.size 183 _ (0,0) _ rfl k9 Tryz.underlying183 rfl (E5.out _)) rfl ⟨rfl,((Below.refl w.heap.size w).alloc (Nat.le_refl _) _).grown g9 (by simp) (fun k hk=>by injection hk with hk;omega)⟩
set_option maxHeartbeats 1000000 in
theorem least_any (n:N5) (hn:n.le 67108868) (h0:0≤n.val) (h1:n.val < 1361129467683753853853498429727072845824) (w:World) :
  Calls Tryz.prog 128 #[.agg (nRow n)] w fun e w'=>e = .returned (.agg (nRow (leastN n)))∧Below w.heap.size w w':=by
 have hz:=zN
 have hall:=leastN_all hn h0 h1
 have hna:=hn.a
 obtain ⟨o,ho⟩:∃ o,Hid (c5 (beyondN n)=o):=⟨_,rfl⟩
 have ho0:=hall.2.2.1
 have ho1:=hall.2.2.2
 rw [ho.out] at ho0 ho1
 have hle:=hn.mono (show (67108868:Int)≤1000000000000000000 by decide)
 have hb1:(beyondN n).le 1000000000000000000:=by
  obtain ⟨k1,k2,k3,k4,k5⟩:=hn
  exact ⟨by simp only [beyondN];omega,by simp only [beyondN];omega,by simp only [beyondN];omega,by simp only [beyondN];omega,by simp only [beyondN];omega⟩
 have hb2:(⟨n.a + 5 * o,n.b,n.c,n.d,n.e⟩:N5).le 1000000000000000000:=by
  obtain ⟨k1,k2,k3,k4,k5⟩:=hn
  exact ⟨by simp only;omega,by simp only;omega,by simp only;omega,by simp only;omega,by simp only;omega⟩
 have cc1:=fun W=>carried_any (beyondN n) hb1 W
 have cc2:=fun W=>carried_any ⟨n.a + 5 * o,n.b,n.c,n.d,n.e⟩ hb2 W
 have hres:Hid (carryN ⟨n.a + 5 * o,n.b,n.c,n.d,n.e⟩=leastN n):=by show _=_;rw [← ho.out];rfl
 rw [ho.out] at cc1
 rw [hres.out] at cc2
 obtain ⟨q,hq⟩:∃ q,Hid (carryN (beyondN n)=q):=⟨_,rfl⟩
 rw [hq.out] at cc1
 obtain ⟨v,hv⟩:∃ v,Hid (c5 ⟨n.a + 5 * o,n.b,n.c,n.d,n.e⟩=v):=⟨_,rfl⟩
 rw [hv.out] at cc2
 have e5:∀ m:N5,(Tryz.prog.info? 183).map (·.size)=some (nRow m).size:=fun m=>i5_
 have E5:=hid_ e5
 obtain ⟨w0,hw0⟩:∃ w0,Hid ((w.alloc (.cells (nRow n) 183)).alloc (.cells (nRow zeroN) 183)=w0):=⟨_,rfl⟩
 have a0:Bk w0 w.heap.size 183 (nRow n):=by rw [← hw0.out];exact (Bk.new w _ _).alloc _
 have a1:Bk w0 (w.heap.size + 1) 183 (nRow zeroN):=by rw [← hw0.out];simpa using Bk.new (w.alloc (.cells (nRow n) 183)) 183 (nRow zeroN)
 have hb:Below w.heap.size w w0:=by rw [← hw0.out];exact ((Below.refl _ _).alloc (Nat.le_refl _) _).alloc (by simp) _
 have A0:=hid_ a0
 have A1:=hid_ a1
 have HB:=hid_ hb
 have hl1:=a1.lt
 clear e5 a0 a1 hb hall hle hb1 hb2 hn h0 h1
 go_enter Tryz.func128,Tryz.ntmps128
 go_upto_region 1 with fail
 rw [hw0.out]
 go_wp2_with (first
  | (refine wpList_load_row rfl 183 (.tmp 1) rfl w.heap.size rfl 183 (nRow n) (0,0) _ A0.out Tryz.underlying183 rfl (E5.out _) ?_)
  | (refine wpList_put_row rfl 183 (.tmp 3) (.tmp 6) rfl w0.heap.size (nRow n) rfl rfl 183 (nRow zeroN) (Bk.new w0 _ _) (E5.out _) rfl (nRow_one _) ?_;intro w3 k3 g3 s3;have c0:w3.cell? ⟨w0.heap.size,0,none⟩=some (.int .u64 n.a):=k3.cell 0;have f0:=k3.frozen 0;have q3:Bk (w3.setCell ⟨w0.heap.size,0,none⟩ (.int .u64 (n.a + 5))) w0.heap.size 183 (nRow (beyondN n)):=k3.set_ 0 (.int .u64 (n.a + 5));have Q3:=hid_ q3;clear q3;have A2:=hid_ (((A0.out.alloc (.cells (nRow zeroN) 183)).grown g3 (fun e=>by injection e with e;omega)).far (p:=⟨w0.heap.size,0,none⟩) (by show w.heap.size≠w0.heap.size;omega) (.int .u64 (n.a + 5)));have A3:=hid_ (((A1.out.alloc (.cells (nRow zeroN) 183)).grown g3 (fun e=>by injection e with e;omega)).far (p:=⟨w0.heap.size,0,none⟩) (by show w.heap.size + 1≠w0.heap.size;omega) (.int .u64 (n.a + 5)));have HB2:=hid_ (((HB.out.alloc HB.out.size (.cells (nRow zeroN) 183)).grown g3 (by have:=HB.out.size;simp;omega) (fun i hi=>by injection hi with hi;omega)).setCell (p:=⟨w0.heap.size,0,none⟩) (by show w.heap.size≤w0.heap.size;omega) (.int .u64 (n.a + 5))))
  | (refine wpList_load_row rfl 183 (.tmp 3) rfl w0.heap.size rfl 183 (nRow (beyondN n)) (0,0) _ Q3.out Tryz.underlying183 rfl (E5.out _) ?_)
  | (go_at_call 142;((with_reducible refine (cc1 _).mono ?_);rintro e w4 ⟨rfl,hb4⟩);have A4:=hid_ (A2.out.below hb4 A2.out.lt);have A5:=hid_ (A3.out.below hb4 A3.out.lt);have HB4:=hid_ (HB2.out.trans (hb4.mono HB2.out.size));have hl4:=A5.out.lt)
  | (refine wpList_put_row rfl 183 (.tmp 4) (.tmp 14) rfl w4.heap.size (nRow q) rfl rfl 183 (nRow zeroN) (Bk.new w4 _ _) (E5.out _) rfl (nRow_one _) ?_;intro w5 k5 g5 s5;have A6:=(A4.out.alloc (.cells (nRow zeroN) 183)).grown g5 (fun e=>by injection e with e;omega);have c6:w5.cell? ⟨w.heap.size,0,none⟩=some (.int .u64 n.a):=A6.cell 0;have f6:=A6.frozen 0;have q6:Bk (w5.setCell ⟨w.heap.size,0,none⟩ (.int .u64 (n.a + 5 * o))) w.heap.size 183 (nRow ⟨n.a + 5 * o,n.b,n.c,n.d,n.e⟩):=A6.set_ 0 (.int .u64 (n.a + 5 * o));have Q6:=hid_ q6;clear q6 A6;have A7:=hid_ (((A5.out.alloc (.cells (nRow zeroN) 183)).grown g5 (fun e=>by injection e with e;omega)).far (p:=⟨w.heap.size,0,none⟩) (by show w.heap.size + 1≠w.heap.size;omega) (.int .u64 (n.a + 5 * o)));have HB5:=hid_ (((HB4.out.alloc HB4.out.size (.cells (nRow zeroN) 183)).grown g5 (by have:=HB4.out.size;simp;omega) (fun i hi=>by injection hi with hi;have:=HB4.out.size;omega)).setCell (p:=⟨w.heap.size,0,none⟩) (Nat.le_refl _) (.int .u64 (n.a + 5 * o))))
  | (refine wpList_load_row rfl 183 (.tmp 1) rfl w.heap.size rfl 183 (nRow ⟨n.a + 5 * o,n.b,n.c,n.d,n.e⟩) (0,0) _ Q6.out Tryz.underlying183 rfl (E5.out _) ?_)
  | (go_at_call 142;((with_reducible refine (cc2 _).mono ?_);rintro e w7 ⟨rfl,hb7⟩);have A8:=hid_ (Q6.out.below hb7 Q6.out.lt);have A9:=hid_ (A7.out.below hb7 A7.out.lt);have HB7:=hid_ (HB5.out.trans (hb7.mono HB5.out.size)))
  | (refine wpList_put_row rfl 183 (.tmp 1) (.tmp 25) rfl w.heap.size (nRow (leastN n)) rfl rfl 183 (nRow ⟨n.a + 5 * o,n.b,n.c,n.d,n.e⟩) A8.out (E5.out _) rfl (nRow_one _) ?_;intro w8 k8 g8 s8;have A10:=A9.out.grown g8 (fun e=>by injection e with e;omega))
  | (refine wpList_load_row rfl 183 (.tmp 1) rfl w.heap.size rfl 183 (nRow (leastN n)) (0,0) _ k8 Tryz.underlying183 rfl (E5.out _) ?_)
  | (refine wpList_put_row rfl 183 (.tmp 2) (.tmp 27) rfl (w.heap.size + 1) (nRow (leastN n)) rfl rfl 183 (nRow zeroN) A10 (E5.out _) rfl (nRow_one _) ?_;intro w9 k9 g9 s9))
 have hf1:=HB7.out.grown g8 HB7.out.size (fun i hi=>by injection hi with hi;omega)
 exact bodyPost_ret (results_cell_row Tryz.results128 _ _ (w.heap.size + 1) 183 _ (0,0) _ rfl k9 Tryz.underlying183 rfl (E5.out _)) rfl ⟨rfl,hf1.grown g9 hf1.size (fun i hi=>by injection hi with hi;omega)⟩
theorem slice_from2 (g off n c k:Nat) (hk:k≤n) (hc:k < c) (W:World) :
  (Instr.slice 23 (.slice (some ⟨g,off,none⟩) n c) (some (.int .i64 (k:Int))) none none).run Tryz.prog W = .ok (.slice (some ⟨g,off + k,none⟩) (n - k) (c - k)) W:=by
 rw [slice_from (some ⟨g,off,none⟩) n c k hk W,if_neg (by omega)]
 have hadd:(⟨g,off,none⟩:Addr).add k=⟨g,off + k,none⟩:=by unfold Addr.add;split <;> simp_all
 rw [Option.map_some,hadd]
theorem words_any (g off c B:Nat) (l:List UInt8) (w:World) (hl:l.length=16) (hc:16≤c) (hr:Rd w B (some ⟨g,off,none⟩) l) :
  Calls Tryz.prog 123 #[.slice (some ⟨g,off,none⟩) 16 c] w fun e w'=>e = .returned (.tuple #[.int .u64 (leN (l.take 8):Nat),.int .u64 (leN (l.drop 8):Nat)])∧w=w':=by
 have s1:=fun W=>slice_to (some ⟨g,off,none⟩) 16 c 8 8 rfl (by omega) W
 have s2:=fun W=>slice_from2 g off 16 c 8 (by omega) (by omega) W
 have c1:=low64_yes (some ⟨g,off,none⟩) B c (l.take 8) w (by rw [List.length_take];omega) (hr.take 8)
 have c2:=low64_yes (some ⟨g,off + 8,none⟩) B (c - 8) (l.drop 8) w (by rw [List.length_drop];omega) (hr.drop 8)
 go_enter Tryz.func123,Tryz.ntmps123
 go_wp2_with (first
  | (go_at_call 140;((with_reducible refine c1.mono ?_);rintro e w' ⟨rfl,rfl⟩))
  | (go_at_call 140;((with_reducible refine c2.mono ?_);rintro e w' ⟨rfl,rfl⟩)))
 go_ret2
 exact ⟨rfl,rfl⟩
def wholeB (l:List UInt8):List UInt8:=l ++ [1] ++ List.replicate (16 - l.length) 0
theorem wholeB_len (l:List UInt8) (h:l.length≤16):(wholeB l).length=17:=by simp [wholeB];omega
theorem leN_append (a b:List UInt8):leN (a ++ b)=leN a + 256 ^ a.length * leN b:=by
 unfold leN
 rw [List.reverse_append,beN_append,List.length_reverse,Nat.mul_comm,Nat.add_comm]
theorem leN_zeros (n:Nat):leN (List.replicate n 0)=0:=by
 induction n with
 | zero=>rfl
 | succ n ih=>rw [List.replicate_succ',leN_snoc,ih];simp
theorem leN_whole (l:List UInt8):leN (wholeB l)=leN l + 256 ^ l.length:=by
 unfold wholeB
 rw [leN_append,leN_zeros,Nat.mul_zero,Nat.add_zero,leN_snoc]
 simp
def partN (l:List UInt8):N5:=numN (leN ((wholeB l).take 8):Nat) (leN (((wholeB l).take 16).drop 8):Nat) ((((wholeB l).getD 16 0).toNat:Nat):Int)
theorem leN_split17 (W:List UInt8) (h:W.length=17):leN W=leN (W.take 8) + 18446744073709551616 * leN ((W.take 16).drop 8) + 340282366920938463463374607431768211456 * (W.getD 16 0).toNat:=by
 have e1:W=W.take 8 ++ ((W.take 16).drop 8 ++ [W.getD 16 0]):=by
  have h1:W.take 16 ++ [W.getD 16 0]=W:=by
   rw [← take_snoc8 W 16 (by omega),List.take_of_length_le (by omega)]
  have h2:W.take 8 ++ (W.take 16).drop 8=W.take 16:=by
   have:=List.take_append_drop 8 (W.take 16)
   rwa [List.take_take,Nat.min_eq_left (by omega)] at this
  rw [← List.append_assoc,h2,h1]
 have l1:(W.take 8).length=8:=by rw [List.length_take];omega
 have l2:((W.take 16).drop 8).length=8:=by rw [List.length_drop,List.length_take];omega
 have e2:leN W=leN (W.take 8 ++ ((W.take 16).drop 8 ++ [W.getD 16 0])):=by rw [← e1]
 rw [e2,leN_append,leN_append,l1,l2]
 have e3:leN [W.getD 16 0]=(W.getD 16 0).toNat:=by simp [leN,beN]
 have e4:(256:Nat) ^ 8=18446744073709551616:=by decide
 rw [e3,e4]
 omega
theorem leN8_le (l:List UInt8) (h:l.length≤8):leN l≤18446744073709551615:=by
 have h1:=leN_lt l
 have h2:256 ^ l.length≤256 ^ 8:=Nat.pow_le_pow_right (by omega) h
 have e4:(256:Nat) ^ 8=18446744073709551616:=by decide
 omega
theorem whole_top (l:List UInt8) (h:l.length≤16):((wholeB l).getD 16 0).toNat≤1:=by
 unfold wholeB
 rcases Nat.lt_or_ge l.length 16 with h1 | h1
 ·have:(l ++ [1] ++ List.replicate (16 - l.length) (0:UInt8)).getD 16 0=0:=by
   have hl:(l ++ [1]).length≤16:=by simp;omega
   rw [List.getD,List.getElem?_append_right hl]
   have h2:16 - (l ++ [(1:UInt8)]).length < 16 - l.length:=by simp;omega
   simp [List.getElem?_replicate]
   split <;> rfl
  rw [this];decide
 ·have e:l.length=16:=by omega
  have:(l ++ [1] ++ List.replicate (16 - l.length) (0:UInt8)).getD 16 0=1:=by
   rw [e];simp [List.getD,e]
  rw [this];decide
theorem partN_val (l:List UInt8) (h:l.length≤16):(partN l).val=((leN l + 256 ^ l.length:Nat):Int):=by
 rw [← leN_whole,leN_split17 _ (wholeB_len l h)]
 unfold partN
 rw [numN_val]
 omega
theorem partN_le (l:List UInt8) (h:l.length≤16):(partN l).le 67108863:=by
 have h1:=leN8_le ((wholeB l).take 8) (by rw [List.length_take];omega)
 have h2:=leN8_le (((wholeB l).take 16).drop 8) (by rw [List.length_drop,List.length_take];omega)
 have h3:=whole_top l h
 exact numN_le ⟨by omega,by omega⟩ ⟨by omega,by omega⟩ ⟨by omega,by omega⟩
theorem z17 (W:World):(zeroValue 203).run Tryz.prog W = .ok (.agg (rowOf (zbytes 17))) W:=by kernel_rfl
theorem slice_all17 (g:Nat) (W:World) :
  (Instr.sliceAt 203 (.pointer (some ⟨g,0,none⟩)) none none none).run Tryz.prog W = .ok (.slice (some ⟨g,0,none⟩) 17 17) W:=by
 have he:Tryz.prog.elem 203=5:=by kernel_rfl
 have hn:Tryz.prog.arrayLen 203=17:=by kernel_rfl
 have ht:Tryz.prog.underlying 203=some (.array (Tryz.prog.arrayLen 203) (Tryz.prog.elem 203)):=by rw [he,hn];exact Tryz.underlying203
 have hs:(sizeOf (Tryz.prog.elem 203)).run Tryz.prog W = .ok 1 W:=by
  rw [he]
  obtain ⟨i,hi,hz,hsize,hby⟩:=info_parts info8
  simp [sizeOf,typeInfo,hi,hsize]
 rw [run_sliceAt_array_all W 203 ⟨g,0,none⟩ ht,hs,hn]
 simp only [Result.andThen,slicedAt,Nat.mul_one]
 rw [if_neg (by omega)]
 congr 3
theorem slice_to17 (g:Nat) (W:World) :
  (Instr.sliceAt 203 (.pointer (some ⟨g,0,none⟩)) none (some (.int .i64 16)) none).run Tryz.prog W = .ok (.slice (some ⟨g,0,none⟩) 16 17) W:=by
 have he:Tryz.prog.elem 203=5:=by kernel_rfl
 have hn:Tryz.prog.arrayLen 203=17:=by kernel_rfl
 have ht:Tryz.prog.underlying 203=some (.array (Tryz.prog.arrayLen 203) (Tryz.prog.elem 203)):=by rw [he,hn];exact Tryz.underlying203
 have hs:(sizeOf (Tryz.prog.elem 203)).run Tryz.prog W = .ok 1 W:=by
  rw [he]
  obtain ⟨i,hi,hz,hsize,hby⟩:=info_parts info8
  simp [sizeOf,typeInfo,hi,hsize]
 have h:=run_sliceAt_array_h W 203 ⟨g,0,none⟩ ht .i64 16 (by omega) (by rw [hn];omega)
 rw [hs,hn] at h
 have e:((16:Int)).toNat=16:=rfl
 simp only [Result.andThen,slicedAt,e,Nat.mul_one] at h
 rw [h,if_neg (by omega)]
 congr 3
set_option maxHeartbeats 1000000 in
theorem partOf_any (A:Option Addr) (n c:Nat) (l:List UInt8) (w:World) (hl:l.length=n) (h1:0 < n) (h16:n≤16) (hr:Rd w w.heap.size A l) :
  Calls Tryz.prog 126 #[.slice A n c] w fun e w'=>e = .returned (.agg (nRow (partN l)))∧Below w.heap.size w w':=by
 have hz:=zN
 have hz17:=z17
 have s1:=slice_all17
 have s2:=slice_to17
 have e5:∀ m:N5,(Tryz.prog.info? 183).map (·.size)=some (nRow m).size:=fun m=>i5_
 have E5:=hid_ e5
 obtain ⟨w0,hw0⟩:∃ w0,Hid ((w.alloc (.cells (nRow zeroN) 183)).alloc (.cells (rowOf (zbytes 17)) 203)=w0):=⟨_,rfl⟩
 have a0:Bk w0 w.heap.size 183 (nRow zeroN):=by rw [← hw0.out];exact (Bk.new w _ _).alloc _
 have a1:Bk w0 (w.heap.size + 1) 203 (rowOf (zbytes 17)):=by rw [← hw0.out];simpa using Bk.new (w.alloc (.cells (nRow zeroN) 183)) 203 (rowOf (zbytes 17))
 have hb:Below w.heap.size w w0:=by rw [← hw0.out];exact ((Below.refl _ _).alloc (Nat.le_refl _) _).alloc (by simp) _
 have r0:RdN w0 (w.heap.size + 1) A l:=(hr.below hb).rdn (by omega) (Nat.le_of_lt a1.lt)
 have A0:=hid_ a0
 have A1:=hid_ a1
 have HB:=hid_ hb
 have R0:=hid_ r0
 have HL:=hid_ hl
 have hmin:n=Nat.min n 17:=(Nat.min_eq_left (by omega)).symm
 have HMIN:=hid_ hmin
 have hfit:0 + n≤(rowOf (zbytes 17)).size:=by rw [rowOf_size,zbytes_len];omega
 have HFIT:=hid_ hfit
 have hlaid:laid (zbytes 17) 0 l=l ++ List.replicate (17 - n) 0:=by
  unfold laid zbytes
  rw [List.take_zero,List.nil_append,List.drop_replicate,hl,Nat.zero_add]
 have hset:(l ++ List.replicate (17 - n) (0:UInt8)).set n 1=wholeB l:=by
  unfold wholeB
  rw [hl,show 17 - n=(16 - n) + 1 by omega,List.replicate_succ,← hl,set_mid]
 have HLAID:=hid_ hlaid
 have HSET:=hid_ hset
 have hwl:Hid ((wholeB l).length=17):=hid_ (wholeB_len l (by omega))
 have htop:=whole_top l (by omega)
 have b1:=leN8_le ((wholeB l).take 8) (by rw [List.length_take];omega)
 have b2:=leN8_le (((wholeB l).take 16).drop 8) (by rw [List.length_drop,List.length_take];omega)
 have cn:=fun W=>numberOf_any (leN ((wholeB l).take 8)) (leN (((wholeB l).take 16).drop 8)) ((wholeB l).getD 16 0).toNat b1 b2 (by omega) W
 have HCN:Hid (∀ W:World,Calls Tryz.prog 124 #[.int .u64 (leN ((wholeB l).take 8):Nat),.int .u64 (leN (((wholeB l).take 16).drop 8):Nat),.int .u64 (((wholeB l).getD 16 0).toNat:Nat)] W fun e w'=>e = .returned (.agg (nRow (partN l)))∧Below W.heap.size W w'):=hid_ cn
 obtain ⟨tp,htp⟩:∃ tp,Hid (((wholeB l).getD 16 0).toNat=tp):=⟨_,rfl⟩
 obtain ⟨x1,hx1⟩:∃ x,Hid (leN ((wholeB l).take 8)=x):=⟨_,rfl⟩
 obtain ⟨x2,hx2⟩:∃ x,Hid (leN (((wholeB l).take 16).drop 8)=x):=⟨_,rfl⟩
 rw [htp.out,hx1.out,hx2.out] at HCN
 rw [htp.out] at htop
 rw [hx1.out] at b1
 rw [hx2.out] at b2
 have hgl:=a1.lt
 clear e5 a0 a1 hb r0 hl hmin hfit hlaid hset cn hr
 go_enter Tryz.func126,Tryz.ntmps126
 go_upto_region 2 with fail
 rw [hw0.out]
 have t0:(0:Int)≤(n:Int):=by omega
 have t17:(n:Int) < 17:=by omega
 go_wp2_with (first
  | (refine wpList_copy8 rfl (.tmp 7) (.tmp 8) rfl (w.heap.size + 1) 0 17 17 rfl A n c rfl l n HL.out h1 HMIN.out (w.heap.size + 1) R0.out 203 (rowOf (zbytes 17)) A1.out HFIT.out ?_;intro w1 k1 g1 s1';rw [row_laid,HLAID.out] at k1;have c1:=k1.cell n;rw [rowOf_at _ _ (by rw [List.length_append,List.length_replicate,HL.out];omega)] at c1;have f1:=k1.frozen n;have k2:=k1.set_ n (.int .u8 ((1:UInt8).toNat:Int));rw [rowOf_set,HSET.out] at k2;have k2:Bk (w1.setCell ⟨w.heap.size + 1,n,none⟩ (.int .u8 1)) (w.heap.size + 1) 203 (rowOf (wholeB l)):=k2;have K2:=hid_ k2;clear k1 k2;have A2:=hid_ ((A0.out.grown g1 (fun e=>by injection e with e;omega)).far (p:=⟨w.heap.size + 1,n,none⟩) (by show w.heap.size≠w.heap.size + 1;omega) (.int .u8 1));have HB1:=hid_ ((HB.out.grown g1 (by have:=HB.out.size;omega) (fun i hi=>by injection hi with hi;omega)).setCell (p:=⟨w.heap.size + 1,n,none⟩) (by show w.heap.size≤w.heap.size + 1;omega) (.int .u8 1));have cw:=words_any (w.heap.size + 1) 0 17 (w.heap.size + 1 + 1) ((wholeB l).take 16) _ (by rw [List.length_take,hwl.out];rfl) (by omega) ((rd_of_bk K2.out (Nat.lt_succ_self _)).take 16);rw [List.take_take,show min 8 16=8 by omega,hx1.out,hx2.out] at cw;have c16:=K2.out.cell 16;rw [rowOf_at _ _ (by rw [hwl.out];omega),htp.out] at c16)
  | (go_at_call 123;((with_reducible refine cw.mono ?_);rintro e w' ⟨rfl,rfl⟩))
  | (go_at_call 124;((with_reducible refine (HCN.out _).mono ?_);rintro e w5 ⟨rfl,hb5⟩);have A5:=A2.out.below hb5 A2.out.lt;have X5:=HB1.out.trans (hb5.mono HB1.out.size))
  | (refine wpList_put_row rfl 183 (.tmp 2) (.tmp 22) rfl w.heap.size (nRow (partN l)) rfl rfl 183 (nRow zeroN) A5 (E5.out _) rfl (nRow_one _) ?_;intro w9 k9 g9 s9))
 exact bodyPost_ret (results_cell_row Tryz.results126 _ _ w.heap.size 183 _ (0,0) _ rfl k9 Tryz.underlying183 rfl (E5.out _)) rfl ⟨rfl,X5.grown g9 X5.size (fun k hk=>by injection hk with hk;omega)⟩
theorem or_lo (x y c:Int) (k:Nat) (P:Int) (hP:P=((2 ^ k:Nat):Int)) (hx0:0≤x) (hx:x < P) (hy:y=c * P) (hc:0≤c) (hs:x + y < 18446744073709551616):bits .or .u64 x y=x + y:=by
 obtain ⟨n,rfl⟩:=Int.eq_ofNat_of_zero_le hx0
 obtain ⟨d,rfl⟩:=Int.eq_ofNat_of_zero_le hc
 subst hP
 have e:y=((d * 2 ^ k:Nat):Int):=by rw [hy,Int.natCast_mul]
 subst e
 have h:=or_u64_add' (d * 2 ^ k) n d k (by omega) rfl (by omega)
 rw [h]
 omega
theorem lowB_mod (n x:Nat):lowB n (x % 256 ^ n)=lowB n x:=by
 unfold lowB
 apply List.map_congr_left
 intro i hi
 have hi':i < n:=by simpa using hi
 congr 1
 obtain ⟨m,rfl⟩:∃ m,n=i + (m + 1):=⟨n - i - 1,by omega⟩
 rw [Nat.pow_add,Nat.mod_mul_right_div_self,Nat.pow_succ,Nat.mod_mul_left_mod]
theorem lowB_app (n m x:Nat):lowB (n + m) x=lowB n x ++ lowB m (x / 256 ^ n):=by
 unfold lowB
 rw [List.range_add,List.map_append,List.map_map]
 congr 1
 apply List.map_congr_left
 intro i _
 simp only [Function.comp]
 rw [Nat.pow_add,Nat.div_div_eq_div_mul]
theorem lowB_two (x y:Nat) (hx:x < 18446744073709551616):lowB 8 x ++ lowB 8 y=lowB 16 (x + 18446744073709551616 * y):=by
 have e4:(256:Nat) ^ 8=18446744073709551616:=by decide
 have h:=lowB_app 8 8 (x + 18446744073709551616 * y)
 rw [h,← lowB_mod 8 (x + 18446744073709551616 * y),e4]
 congr 2 <;> omega
theorem leN_cons (b:UInt8) (l:List UInt8):leN (b :: l)=b.toNat + 256 * leN l:=by
 have h:=leN_append [b] l
 have e:leN [b]=b.toNat:=by simp [leN,beN]
 rw [e] at h
 simpa using h
theorem z16 (W:World):(zeroValue 150).run Tryz.prog W = .ok (.agg (rowOf (zbytes 16))) W:=by kernel_rfl
theorem i16_:(Tryz.prog.info? 150).map (·.size)=some 16:=by kernel_rfl
theorem size16 (W:World):(sizeOf (Tryz.prog.elem 150)).run Tryz.prog W = .ok 1 W:=by
 have he:Tryz.prog.elem 150=5:=by kernel_rfl
 rw [he]
 obtain ⟨i,hi,hz,hsize,hby⟩:=info_parts info8
 simp [sizeOf,typeInfo,hi,hsize]
theorem slice_to16 (g k:Nat) (hk:k≤16) (W:World) :
  (Instr.sliceAt 150 (.pointer (some ⟨g,0,none⟩)) none (some (.int .i64 (k:Int))) none).run Tryz.prog W = .ok (.slice (some ⟨g,0,none⟩) k 16) W:=by
 have he:Tryz.prog.elem 150=5:=by kernel_rfl
 have hn:Tryz.prog.arrayLen 150=16:=by kernel_rfl
 have ht:Tryz.prog.underlying 150=some (.array (Tryz.prog.arrayLen 150) (Tryz.prog.elem 150)):=by rw [he,hn];exact Tryz.underlying150
 rw [run_sliceAt_array_h W 150 ⟨g,0,none⟩ ht .i64 k (by omega) (by rw [hn];omega),size16,hn]
 simp only [Result.andThen,slicedAt,Int.toNat_natCast,Nat.mul_one]
 rw [if_neg (by omega)]
 congr 3
theorem slice_from16 (g k:Nat) (hk:k < 16) (W:World) :
  (Instr.sliceAt 150 (.pointer (some ⟨g,0,none⟩)) (some (.int .i64 (k:Int))) none none).run Tryz.prog W = .ok (.slice (some ⟨g,k,none⟩) (16 - k) (16 - k)) W:=by
 have he:Tryz.prog.elem 150=5:=by kernel_rfl
 have hn:Tryz.prog.arrayLen 150=16:=by kernel_rfl
 have ht:Tryz.prog.underlying 150=some (.array (Tryz.prog.arrayLen 150) (Tryz.prog.elem 150)):=by rw [he,hn];exact Tryz.underlying150
 rw [run_sliceAt_array_l W 150 ⟨g,0,none⟩ ht .i64 k (by omega) (by rw [hn];omega),size16,hn]
 simp only [Result.andThen,slicedAt,Int.toNat_natCast,Nat.mul_one]
 rw [if_neg (by omega)]
 congr 3
 unfold Addr.add
 split
 ·congr 1;omega
 ·simp
theorem slice_all16 (g:Nat) (W:World) :
  (Instr.sliceAt 150 (.pointer (some ⟨g,0,none⟩)) none none none).run Tryz.prog W = .ok (.slice (some ⟨g,0,none⟩) 16 16) W:=by
 have he:Tryz.prog.elem 150=5:=by kernel_rfl
 have hn:Tryz.prog.arrayLen 150=16:=by kernel_rfl
 have ht:Tryz.prog.underlying 150=some (.array (Tryz.prog.arrayLen 150) (Tryz.prog.elem 150)):=by rw [he,hn];exact Tryz.underlying150
 rw [run_sliceAt_array_all W 150 ⟨g,0,none⟩ ht,size16,hn]
 simp only [Result.andThen,slicedAt,Nat.mul_one]
 rw [if_neg (by omega)]
 congr 3
set_option maxHeartbeats 2000000 in
theorem nLowest_any (n:N5) (hn:n.le 1000000000000000000) (w:World) :
  Calls Tryz.prog 129 #[.agg (nRow n)] w fun e w'=>e = .returned (.agg (rowOf (lowB 16 (n.val % 340282366920938463463374607431768211456).toNat)))∧Below w.heap.size w w':=by
 have hz:=zN
 have hz16:=z16
 have cc:=fun W=>carried_any n hn W
 have hle:=carryN_le n
 have hval:(n.val % 340282366920938463463374607431768211456)=lowW (carryN n) + 18446744073709551616 * highW (carryN n):=by
  rw [words_val hle,carryN_val n,show (1361129467683753853853498429727072845824:Int)=340282366920938463463374607431768211456 * 4 by decide,Int.mul_assoc,Int.add_mul_emod_self_left]
 obtain ⟨q,hq⟩:∃ q,Hid (carryN n=q):=⟨_,rfl⟩
 rw [hq.out] at cc hle hval
 obtain ⟨v,hv⟩:∃ v,Hid (c5 n=v):=⟨_,rfl⟩
 rw [hv.out] at cc
 obtain ⟨ha,hb,hc,hd,he⟩:=hle
 have e1:lowW q=q.a + q.b * 67108864 + q.c * 4503599627370496 % 18446744073709551616:=by unfold lowW;omega
 have e2:highW q=q.c / 4096 + q.d * 16384 + q.e * 1099511627776 % 18446744073709551616:=by unfold highW;omega
 have o1:=or_lo q.a (q.b * 67108864) q.b 26 67108864 (by decide) ha.1 (by omega) rfl hb.1 (by omega)
 have o2:=or_lo (q.a + q.b * 67108864) (q.c * 4503599627370496 % 18446744073709551616) (q.c % 4096) 52 4503599627370496 (by decide) (by omega) (by omega) (by omega) (by omega) (by omega)
 have o3:=or_lo (q.c / 4096) (q.d * 16384) q.d 14 16384 (by decide) (by omega) (by omega) rfl hd.1 (by omega)
 have o4:=or_lo (q.c / 4096 + q.d * 16384) (q.e * 1099511627776 % 18446744073709551616) (q.e % 16777216) 40 1099511627776 (by decide) (by omega) (by omega) (by omega) (by omega) (by omega)
 obtain ⟨X1,hX1⟩:=Int.eq_ofNat_of_zero_le (show 0≤lowW q by unfold lowW;omega)
 obtain ⟨X2,hX2⟩:=Int.eq_ofNat_of_zero_le (show 0≤highW q by unfold highW;omega)
 have l1':lowW q < 18446744073709551616:=by unfold lowW;omega
 have l2':highW q < 18446744073709551616:=by unfold highW;omega
 have l1:X1≤18446744073709551615:=by omega
 have l2:X2≤18446744073709551615:=by omega
 clear l1' l2'
 have hres:Hid (lowB 16 (n.val % 340282366920938463463374607431768211456).toNat=lowB 8 X1 ++ lowB 8 X2):=by
  show _=_
  rw [lowB_two X1 X2 (by omega),hval,hX1,hX2]
  congr 1
 have w1:IntKind.u64.wrap (q.c * 4503599627370496)=q.c * 4503599627370496 % 18446744073709551616:=by rw [IntKind.wrap_u64]
 have w2:IntKind.u64.wrap (q.e * 1099511627776)=q.e * 1099511627776 % 18446744073709551616:=by rw [IntKind.wrap_u64]
 have w3:IntKind.u64.wrap (q.b * 67108864)=q.b * 67108864:=IntWalk.u64_in _ (by omega)
 have w4:IntKind.u64.wrap (q.d * 16384)=q.d * 16384:=IntWalk.u64_in _ (by omega)
 rw [e1] at hX1
 rw [e2] at hX2
 have d1:∀ W:World,Calls Tryz.prog 94 #[.int .u64 (q.a + q.b * 67108864 + q.c * 4503599627370496 % 18446744073709551616),.int .i64 8] W fun e w'=>e = .returned (.slice (some ⟨W.heap.size,0,none⟩) 8 8)∧W.alloc (.cells (rowOf (lowB 8 X1)) 5)=w':=fun W=>by
  rw [hX1];exact putLow_any X1 8 8 l1 (by omega) (by omega) (by omega) W
 have d2:∀ W:World,Calls Tryz.prog 94 #[.int .u64 (q.c / 4096 + q.d * 16384 + q.e * 1099511627776 % 18446744073709551616),.int .i64 8] W fun e w'=>e = .returned (.slice (some ⟨W.heap.size,0,none⟩) 8 8)∧W.alloc (.cells (rowOf (lowB 8 X2)) 5)=w':=fun W=>by
  rw [hX2];exact putLow_any X2 8 8 l2 (by omega) (by omega) (by omega) W
 have e5:∀ m:N5,(Tryz.prog.info? 183).map (·.size)=some (nRow m).size:=fun m=>i5_
 have E5:=hid_ e5
 have e16:∀ l:List UInt8,l.length=16→(Tryz.prog.info? 150).map (·.size)=some (rowOf l).size:=fun l h=>by rw [rowOf_size,h];exact i16_
 have E16:=hid_ e16
 obtain ⟨w0,hw0⟩:∃ w0,Hid ((w.alloc (.cells (nRow n) 183)).alloc (.cells (rowOf (zbytes 16)) 150)=w0):=⟨_,rfl⟩
 have a0:Bk w0 w.heap.size 183 (nRow n):=by rw [← hw0.out];exact (Bk.new w _ _).alloc _
 have a1:Bk w0 (w.heap.size + 1) 150 (rowOf (zbytes 16)):=by rw [← hw0.out];simpa using Bk.new (w.alloc (.cells (nRow n) 183)) 150 (rowOf (zbytes 16))
 have hb0:Below w.heap.size w w0:=by rw [← hw0.out];exact ((Below.refl _ _).alloc (Nat.le_refl _) _).alloc (by simp) _
 have A0:=hid_ a0
 have A1:=hid_ a1
 have HB:=hid_ hb0
 have hl1:=a1.lt
 clear e5 e16 a0 a1 hb0 hval e1 e2 hX1 hX2 hn
 go_enter Tryz.func129,Tryz.ntmps129
 go_upto_region 1 with fail
 rw [hw0.out]
 go_upto_region 3 with (first
  | (refine wpList_load_row rfl 183 (.tmp 1) rfl w.heap.size rfl 183 (nRow n) (0,0) _ A0.out Tryz.underlying183 rfl (E5.out _) ?_)
  | (go_at_call 142;((with_reducible refine (cc _).mono ?_);rintro e w4 ⟨rfl,hb4⟩);have A4:=hid_ (A0.out.below hb4 A0.out.lt);have A5:=hid_ (A1.out.below hb4 A1.out.lt);have HB4:=hid_ (HB.out.trans (hb4.mono HB.out.size)))
  | (refine wpList_put_row rfl 183 (.tmp 1) (.tmp 7) rfl w.heap.size (nRow q) rfl rfl 183 (nRow n) A4.out (E5.out _) rfl (nRow_one _) ?_;intro w5 k5 g5 s5))
 obtain ⟨w6,hw6⟩:∃ w6,Hid (w5.alloc (.cells (rowOf (zbytes 16)) 150)=w6):=⟨_,rfl⟩
 rw [hw6.out]
 have hs4:w4.heap.size=w5.heap.size:=s5.symm
 have hl4:=A5.out.lt
 obtain ⟨D,hD⟩:∃ D,Hid (w4.heap.size=D):=⟨_,rfl⟩
 have D6:Bk w6 D 150 (rowOf (zbytes 16)):=by rw [← hw6.out,← hD.out,hs4];exact Bk.new w5 _ _
 have K6:Bk w6 w.heap.size 183 (nRow q):=by rw [← hw6.out];exact k5.alloc _
 have A6:Bk w6 (w.heap.size + 1) 150 (rowOf (zbytes 16)):=by rw [← hw6.out];exact (A5.out.grown g5 (fun e=>by injection e with e;omega)).alloc _
 have X6:Below w.heap.size w w6:=by rw [← hw6.out];exact ((HB4.out.grown g5 HB4.out.size (fun i hi=>by injection hi with hi;omega))).alloc (by rw [← hs4];exact HB4.out.size) _
 have hDb:w.heap.size + 1 < D:=by rw [← hD.out];exact hl4
 rw [hD.out]
 have ca:w6.cell? ⟨w.heap.size,0,none⟩=some (.int .u64 q.a):=K6.cell 0
 have cb:w6.cell? ⟨w.heap.size,1,none⟩=some (.int .u64 q.b):=K6.cell 1
 have cC:w6.cell? ⟨w.heap.size,2,none⟩=some (.int .u64 q.c):=K6.cell 2
 have HD6:=hid_ D6
 have HK6:=hid_ K6
 have HA6:=hid_ A6
 have HX6:=hid_ X6
 have s1:=slice_to16 D 8 (by omega)
 have s2:=slice_from16 D 8 (by omega)
 clear D6 K6 A6 X6 k5 g5 s5 hs4 hl4 A4 A5 HB4 A0 A1 HB cc
 have hfit1:0 + 8≤(rowOf (zbytes 16)).size:=by rw [rowOf_size,zbytes_len];omega
 have HF1:=hid_ hfit1
 clear hfit1
 have hla1:laid (zbytes 16) 0 (lowB 8 X1)=lowB 8 X1 ++ zbytes 8:=by
  unfold laid zbytes
  rw [List.take_zero,List.nil_append,List.drop_replicate,lowB_len]
 have HLA1:=hid_ hla1
 clear hla1
 have hlD:=HD6.out.lt
 go_cut [3] (fun s3 wx=>s3 = .pointer (some ⟨D,0,none⟩)∧Hid (Bk wx D 150 (rowOf (lowB 8 X1 ++ zbytes 8)))∧Hid (Bk wx w.heap.size 183 (nRow q))∧Hid (Bk wx (w.heap.size + 1) 150 (rowOf (zbytes 16)))∧Hid (Below w.heap.size w wx))
 case first =>
  clear s2 d2
  go_region_law (first
   | (refine step_copy8 rfl (.tmp 9) (.tmp 20) rfl D 0 8 16 rfl (some ⟨w6.heap.size,0,none⟩) 8 8 rfl (lowB 8 X1) 8 (lowB_len _ _) (by omega) rfl D ((Blk8.new w6.drew (lowB 8 X1)).rdn (by show w6.heap.size≠D;omega)) 150 (rowOf (zbytes 16)) (HD6.out.drew.alloc _) HF1.out ?_;intro w9 k9 g9 s9;rw [row_laid,HLA1.out] at k9)
   | (go_simp;go_at_call 94;((with_reducible refine (d1 _).mono ?_);rintro e w8 ⟨rfl,rfl⟩)))
  all_goals
   have K9:Bk w9 w.heap.size 183 (nRow q):=(HK6.out.drew.alloc (.cells (rowOf (lowB 8 X1)) 5)).grown g9 (fun e=>by injection e with e;omega)
   have A9:Bk w9 (w.heap.size + 1) 150 (rowOf (zbytes 16)):=(HA6.out.drew.alloc (.cells (rowOf (lowB 8 X1)) 5)).grown g9 (fun e=>by injection e with e;omega)
   have X9:Below w.heap.size w w9:=(HX6.out.drew.alloc HX6.out.size (.cells (rowOf (lowB 8 X1)) 5)).grown g9 (by have:=HX6.out.size;simp;omega) (fun i hi=>by injection hi with hi;omega)
   go_wp2
   go_meet
   exact ⟨rfl,k9,K9,A9,X9⟩
 case rest =>
  obtain ⟨rfl,HD7,HK7,HA7,HX7⟩:=hcut
  clear HD6 HK6 HA6 HX6 d1 HF1 HLA1 hlD
  have K9:=HK7.out
  have cC:wc.cell? ⟨w.heap.size,2,none⟩=some (.int .u64 q.c):=K9.cell 2
  have cd:wc.cell? ⟨w.heap.size,3,none⟩=some (.int .u64 q.d):=K9.cell 3
  have ce:wc.cell? ⟨w.heap.size,4,none⟩=some (.int .u64 q.e):=K9.cell 4
  have hlD:=HD7.out.lt
  have hfit2:8 + 8≤(rowOf (lowB 8 X1 ++ zbytes 8)).size:=by rw [rowOf_size,List.length_append,lowB_len,zbytes_len];omega
  have HF2:=hid_ hfit2
  have hla2:laid (lowB 8 X1 ++ zbytes 8) 8 (lowB 8 X2)=lowB 16 (n.val % 340282366920938463463374607431768211456).toNat:=by
   have h:=laid_app (lowB 8 X1) (zbytes 8) (lowB 8 X2)
   rw [lowB_len] at h
   rw [h,hres.out]
   simp [zbytes,lowB_len]
  have HLA2:=hid_ hla2
  obtain ⟨R,hR⟩:∃ R,Hid (lowB 16 (n.val % 340282366920938463463374607431768211456).toNat=R):=⟨_,rfl⟩
  have hRl:R.length=16:=by rw [← hR.out];exact lowB_len _ _
  rw [hR.out] at HLA2
  clear hfit2 hla2 K9
  go_upto_region 4 with fail
  go_cut [3] (fun s3 wx=>s3 = .pointer (some ⟨D,0,none⟩)∧Hid (Bk wx D 150 (rowOf R))∧Hid (Bk wx (w.heap.size + 1) 150 (rowOf (zbytes 16)))∧Hid (Below w.heap.size w wx))
  case first =>
   go_region_law (first
    | (refine step_copy8 rfl (.tmp 22) (.tmp 34) rfl D 8 8 8 rfl (some ⟨wc.heap.size,0,none⟩) 8 8 rfl (lowB 8 X2) 8 (lowB_len _ _) (by omega) rfl D ((Blk8.new wc.drew (lowB 8 X2)).rdn (by show wc.heap.size≠D;omega)) 150 (rowOf (lowB 8 X1 ++ zbytes 8)) (HD7.out.drew.alloc _) HF2.out ?_;intro w9 k9 g9 s9;rw [row_laid,HLA2.out] at k9)
    | (go_simp;go_at_call 94;((with_reducible refine (d2 _).mono ?_);rintro e w8 ⟨rfl,rfl⟩)))
   all_goals
    have A9:Bk w9 (w.heap.size + 1) 150 (rowOf (zbytes 16)):=(HA7.out.drew.alloc (.cells (rowOf (lowB 8 X2)) 5)).grown g9 (fun e=>by injection e with e;omega)
    have X9:Below w.heap.size w w9:=(HX7.out.drew.alloc HX7.out.size (.cells (rowOf (lowB 8 X2)) 5)).grown g9 (by have:=HX7.out.size;simp;omega) (fun i hi=>by injection hi with hi;omega)
    go_wp2
    go_meet
    exact ⟨rfl,k9,A9,X9⟩
  case rest =>
   obtain ⟨rfl,HD8,HA8,HX8⟩:=hcut
   have k11:=HD8.out
   have A11:=HA8.out
   go_wp2_with (first
    | (refine wpList_load_row rfl 150 (.tmp 3) rfl D rfl 150 (rowOf R) (0,0) _ k11 Tryz.underlying150 rfl (E16.out _ hRl) ?_)
    | (refine wpList_put_row rfl 150 (.tmp 2) (.tmp 36) rfl (w.heap.size + 1) (rowOf R) rfl rfl 150 (rowOf (zbytes 16)) A11 (E16.out _ hRl) (by rw [rowOf_size,rowOf_size,hRl,zbytes_len]) (bytes_one _) ?_;intro w12 k12 g12 s12))
   exact bodyPost_ret (results_cell_row Tryz.results129 _ _ (w.heap.size + 1) 150 _ (0,0) _ rfl k12 Tryz.underlying150 rfl (E16.out _ hRl)) rfl ⟨by rw [hR.out],HX8.out.grown g12 HX8.out.size (fun i hi=>by injection hi with hi;omega)⟩
def clampL (x:Nat):Nat:=(bits .and .u64 (x:Int) 1152921487695413247).toNat
def clampH (x:Nat):Nat:=(bits .and .u64 (x:Int) 1152921487695413244).toNat
theorem clampL_eq (x:Nat):bits .and .u64 (x:Int) 1152921487695413247=((clampL x:Nat):Int)∧clampL x≤18446744073709551615:=by
 have h:=bounds_u64 (wf_bits .and .u64 (x:Int) 1152921487695413247)
 unfold clampL
 omega
theorem clampH_eq (x:Nat):bits .and .u64 (x:Int) 1152921487695413244=((clampH x:Nat):Int)∧clampH x≤18446744073709551615:=by
 have h:=bounds_u64 (wf_bits .and .u64 (x:Int) 1152921487695413244)
 unfold clampH
 omega
def factN (key:List UInt8):N5:=numN (clampL (leN ((key.take 16).take 8)):Nat) (clampH (leN ((key.take 16).drop 8)):Nat) 0
theorem factN_le (key:List UInt8):(factN key).le 67108863:=by
 have h1:=(clampL_eq (leN ((key.take 16).take 8))).2
 have h2:=(clampH_eq (leN ((key.take 16).drop 8))).2
 exact numN_le ⟨by omega,by omega⟩ ⟨by omega,by omega⟩ ⟨by omega,by omega⟩
def accP (f:Int) (b:List UInt8):Nat→Int
 | 0=>0
 | k + 1=>(accP f b k + ((leN ((b.drop (16 * k)).take 16) + 256 ^ ((b.drop (16 * k)).take 16).length:Nat):Int)) * f % primeP
def polyTag (key b:List UInt8):List UInt8:=lowB 16 ((accP (factN key).val b ((b.length + 15) / 16) + ((leN (key.drop 16):Nat):Int)) % 340282366920938463463374607431768211456).toNat
theorem polyTag_len (key b:List UInt8):(polyTag key b).length=16:=lowB_len _ _
theorem accP_step (s f p:N5) (a n:Int) (hp:p.val=n) (h:s.val % primeP=a) (hr:(redN (mulN (addN s p) f)).val % primeP=(mulN (addN s p) f).val % primeP):(redN (mulN (addN s p) f)).val % primeP=(a + n) * f.val % primeP:=by
 rw [hr]
 have h1:=mulN_val (addN s p) f
 rw [addN_val,hp] at h1
 have h2:(mulN (addN s p) f).val=(s.val + n) * f.val + primeP * (-(mulQ (addN s p) f)):=by rw [Int.mul_neg];omega
 rw [h2,Int.add_mul_emod_self_left,← h,Int.mul_emod,Int.add_emod]
 conv=>rhs;rw [Int.mul_emod,Int.add_emod,Int.emod_emod_of_dvd _ (Int.dvd_refl _)]
section
variable {P : Program} {C : World → Prop} {o : Oper} {a : Act} {K : Act → Prop}
theorem quiet_load_rowq (ty:TypeId) (x:Operand) (ho:o.op = .load ty x) (g:Nat) (hx:a.eval x = .pointer (some ⟨g,0,none⟩)) (t:TypeId) (cs:Array Value) (d:TypeDesc)
  (hu:P.underlying ty=some d) (hd:(match d with | .struct _ | .array _ _=>true | _=>false)=true) (hi:(P.info? ty).map (·.size)=some cs.size)
  (hC:∀ W,C W→Bk W g t cs) (hk:K (a.put o.dst (.agg cs))):o.quiet P a C K :=
 quiet_run (.agg cs) (fun W hW=>by
  have hrun:(loadVar ty ⟨g,0,none⟩).run P W = .ok (.agg cs) W:=run_loadVar_row _ _ _ _ _ (0,0) _ (hC W hW) hu hd hi
  unfold execOp
  simp only [ho,hx,Instr.loadAt,Instr.sureAddr,Sem.run_bind,Sem.run_pure,Result.andThen_ok,hrun]) hk
end
theorem size32 (W:World):(sizeOf (Tryz.prog.elem 22)).run Tryz.prog W = .ok 1 W:=by
 have he:Tryz.prog.elem 22=5:=by kernel_rfl
 rw [he]
 obtain ⟨i,hi,hz,hsize,hby⟩:=info_parts info8
 simp [sizeOf,typeInfo,hi,hsize]
theorem slice_to32 (g k:Nat) (hk:k≤32) (W:World) :
  (Instr.sliceAt 22 (.pointer (some ⟨g,0,none⟩)) none (some (.int .i64 (k:Int))) none).run Tryz.prog W = .ok (.slice (some ⟨g,0,none⟩) k 32) W:=by
 have he:Tryz.prog.elem 22=5:=by kernel_rfl
 have hn:Tryz.prog.arrayLen 22=32:=by kernel_rfl
 have ht:Tryz.prog.underlying 22=some (.array (Tryz.prog.arrayLen 22) (Tryz.prog.elem 22)):=by rw [he,hn];exact Tryz.underlying22
 rw [run_sliceAt_array_h W 22 ⟨g,0,none⟩ ht .i64 k (by omega) (by rw [hn];omega),size32,hn]
 simp only [Result.andThen,slicedAt,Int.toNat_natCast,Nat.mul_one]
 rw [if_neg (by omega)]
 congr 3
theorem slice_from32 (g k:Nat) (hk:k < 32) (W:World) :
  (Instr.sliceAt 22 (.pointer (some ⟨g,0,none⟩)) (some (.int .i64 (k:Int))) none none).run Tryz.prog W = .ok (.slice (some ⟨g,k,none⟩) (32 - k) (32 - k)) W:=by
 have he:Tryz.prog.elem 22=5:=by kernel_rfl
 have hn:Tryz.prog.arrayLen 22=32:=by kernel_rfl
 have ht:Tryz.prog.underlying 22=some (.array (Tryz.prog.arrayLen 22) (Tryz.prog.elem 22)):=by rw [he,hn];exact Tryz.underlying22
 rw [run_sliceAt_array_l W 22 ⟨g,0,none⟩ ht .i64 k (by omega) (by rw [hn];omega),size32,hn]
 simp only [Result.andThen,slicedAt,Int.toNat_natCast,Nat.mul_one]
 rw [if_neg (by omega)]
 congr 3
 unfold Addr.add
 split
 ·congr 1;omega
 ·simp
set_option maxHeartbeats 4000000 in
theorem tag_any (key:List UInt8) (A:Option Addr) (n c:Nat) (b:List UInt8) (w:World) (hk:key.length=32) (hn:b.length=n) (hc:n≤c) (hcm:c≤9223372036854775807) (hr:Rd w w.heap.size A b) :
  Calls Tryz.prog 105 #[.agg (rowOf key),.slice A n c] w fun e w'=>e = .returned (.agg (rowOf (polyTag key b)))∧Below w.heap.size w w':=by
 have hz:=zN
 have hz16:=z16
 have e5:∀ m:N5,(Tryz.prog.info? 183).map (·.size)=some (nRow m).size:=fun m=>i5_
 have E5:=hid_ e5
 have e16:∀ l:List UInt8,l.length=16→(Tryz.prog.info? 150).map (·.size)=some (rowOf l).size:=fun l h=>by rw [rowOf_size,h];exact i16_
 have E16:=hid_ e16
 obtain ⟨w0,hw0⟩:∃ w0,Hid ((w.alloc (.cells (rowOf key) 22)).alloc (.cells (rowOf (zbytes 16)) 150)=w0):=⟨_,rfl⟩
 have a0:Bk w0 w.heap.size 22 (rowOf key):=by rw [← hw0.out];exact (Bk.new w _ _).alloc _
 have a1:Bk w0 (w.heap.size + 1) 150 (rowOf (zbytes 16)):=by rw [← hw0.out];simpa using Bk.new (w.alloc (.cells (rowOf key) 22)) 150 (rowOf (zbytes 16))
 have hb:Below w.heap.size w w0:=by rw [← hw0.out];exact ((Below.refl _ _).alloc (Nat.le_refl _) _).alloc (by simp) _
 have s1:=slice_to32 w.heap.size 16 (by omega)
 have s2:=slice_from32 w.heap.size 16 (by omega)
 have cw1:=words_any w.heap.size 0 32 (w.heap.size + 1) (key.take 16) w0 (by rw [List.length_take,hk];rfl) (by omega) ((rd_of_bk a0 (Nat.lt_succ_self _)).take 16)
 have hx:=clampL_eq (leN ((key.take 16).take 8))
 have hy:=clampH_eq (leN ((key.take 16).drop 8))
 have cn1:∀ W:World,Calls Tryz.prog 124 #[.int .u64 (clampL (leN ((key.take 16).take 8)):Nat),.int .u64 (clampH (leN ((key.take 16).drop 8)):Nat),.int .u64 0] W fun e w'=>e = .returned (.agg (nRow (factN key)))∧Below W.heap.size W w':=fun W=>numberOf_any (clampL (leN ((key.take 16).take 8))) (clampH (leN ((key.take 16).drop 8))) 0 hx.2 hy.2 (by omega) W
 have hfl:=factN_le key
 obtain ⟨f,hf⟩:∃ f,Hid (factN key=f):=⟨_,rfl⟩
 rw [hf.out] at cn1 hfl
 obtain ⟨x1,hx1⟩:∃ x,Hid (leN ((key.take 16).take 8)=x):=⟨_,rfl⟩
 obtain ⟨x2,hx2⟩:∃ x,Hid (leN ((key.take 16).drop 8)=x):=⟨_,rfl⟩
 rw [hx1.out] at cw1 hx cn1
 rw [hx2.out] at cw1 hy cn1
 have q1:=hx.1
 have q2:=hy.1
 have A0:=hid_ a0
 have A1:=hid_ a1
 have HB:=hid_ hb
 have HR:=hid_ hr
 have HN:=hid_ hn
 have HK:=hid_ hk
 have hl1:=a1.lt
 clear e5 e16 a0 a1 hb hr hx hy hn hk
 go_enter Tryz.func105,Tryz.ntmps105
 go_upto_region 1 with fail
 rw [hw0.out]
 go_upto_region 3 with (first
  | (go_at_call 123;((with_reducible refine cw1.mono ?_);rintro e w' ⟨rfl,rfl⟩))
  | (go_at_call 124;((with_reducible refine (cn1 _).mono ?_);rintro e w1 ⟨rfl,hb1⟩))
  | (refine wpList_put_row rfl 183 (.tmp 7) (.tmp 19) rfl w1.heap.size (nRow f) rfl rfl 183 (nRow zeroN) (Bk.new w1 _ _) (E5.out _) rfl (nRow_one _) ?_;intro w2 k2 g2 s2'))
 have hs1:=hb1.size
 have KB:=((A0.out.below hb1 A0.out.lt).alloc (.cells (nRow zeroN) 183)).grown g2 (fun e=>by injection e with e;omega)
 have AB:=((A1.out.below hb1 A1.out.lt).alloc (.cells (nRow zeroN) 183)).grown g2 (fun e=>by injection e with e;omega)
 have XB1:=HB.out.trans (hb1.mono HB.out.size)
 have XB:=(XB1.alloc XB1.size (.cells (nRow zeroN) 183)).grown g2 (by have:=XB1.size;simp;omega) (fun i hi=>by injection hi with hi;have:=XB1.size;omega)
 obtain ⟨R,hR⟩:∃ R,Hid (w1.heap.size=R):=⟨_,rfl⟩
 rw [hR.out] at k2 ⊢
 have hRlt:=k2.lt
 obtain ⟨S,hS⟩:∃ S,Hid (w2.heap.size=S):=⟨_,rfl⟩
 have hRb:w.heap.size + 1 < R:=by rw [← hR.out];omega
 have hRS:R < S:=by rw [← hS.out];exact hRlt
 have SB:Bk (w2.alloc (.cells (nRow zeroN) 183)) S 183 (nRow zeroN):=by rw [← hS.out];exact Bk.new w2 _ _
 have HKB:=hid_ (KB.alloc (.cells (nRow zeroN) 183))
 have HAB:=hid_ (AB.alloc (.cells (nRow zeroN) 183))
 have HFB:=hid_ (k2.alloc (.cells (nRow zeroN) 183))
 have HSB:=hid_ SB
 have HXB:=hid_ (XB.alloc XB.size (.cells (nRow zeroN) 183))
 clear KB AB XB1 XB k2 g2 s2' hb1 hs1 hRlt SB A0 A1 HB cw1 cn1 q1 q2 s1 hl1
 go_wp2
 rw [hS.out]
 go_loopw [1] (fun v wr=>∃ (k m:Nat) (A':Option Addr) (c':Nat) (s:N5),v = .slice A' m c'∧m≤c'∧c'≤9223372036854775807∧16 * k≤n + 15∧Hid ((b.drop (16 * k)).length=m)∧Hid (Rd wr w.heap.size A' (b.drop (16 * k)))∧Hid (Bk wr w.heap.size 22 (rowOf key))∧Hid (Bk wr (w.heap.size + 1) 150 (rowOf (zbytes 16)))∧Hid (Bk wr R 183 (nRow f))∧Hid (Bk wr S 183 (nRow s))∧Hid (s.le 67108868)∧Hid (0≤s.val∧s.val < 1361129467683753853853498429727072845824)∧Hid (s.val % primeP=accP f.val b k)∧Hid (Below w.heap.size w wr)) (fun v _=>lenOf v)
 case atStart=>exact ⟨0,n,A,c,zeroN,rfl,hc,hcm,by omega,HN.out,HR.out.below HXB.out,HKB.out,HAB.out,HFB.out,HSB.out,⟨by decide,by decide,by decide,by decide,by decide⟩,⟨by decide,by decide⟩,by show zeroN.val % primeP=0;decide,HXB.out⟩
 case round =>
  obtain ⟨k,m,A',c',s,rfl,hmc,hcm',hkn,hm,hrd,bk,ba,bf,bs,hle,hv,hacc,hbl⟩:=hrel
  clear HKB HAB HFB HSB HXB
  by_cases h0:m=0
  ·have hkk:(n + 15) / 16=k:=by
    have h:=hm.out
    rw [List.length_drop,HN.out] at h
    omega
   subst h0
   have r16:Rd wr (w.heap.size + 1) (some ⟨w.heap.size,16,none⟩) (key.drop 16):=by
    have h:=(rd_of_bk bk.out (Nat.lt_succ_self _)).drop 16
    rwa [Nat.zero_add] at h
   have cw2:=words_any w.heap.size 16 16 (w.heap.size + 1) (key.drop 16) wr (by rw [List.length_drop,HK.out]) (by omega) r16
   have b1:=leN8_le ((key.drop 16).take 8) (by rw [List.length_take];omega)
   have b2:=leN8_le ((key.drop 16).drop 8) (by rw [List.length_drop,List.length_drop,HK.out];omega)
   have hkey:leN (key.drop 16)=leN ((key.drop 16).take 8) + 18446744073709551616 * leN ((key.drop 16).drop 8):=by
    have h:=leN_append ((key.drop 16).take 8) ((key.drop 16).drop 8)
    rw [List.take_append_drop] at h
    have l8:((key.drop 16).take 8).length=8:=by rw [List.length_take,List.length_drop,HK.out];rfl
    rw [l8,show (256:Nat) ^ 8=18446744073709551616 by decide] at h
    exact h
   have hall:=leastN_all hle.out hv.out.1 hv.out.2
   obtain ⟨y1,hy1⟩:∃ x,Hid (leN ((key.drop 16).take 8)=x):=⟨_,rfl⟩
   obtain ⟨y2,hy2⟩:∃ x,Hid (leN ((key.drop 16).drop 8)=x):=⟨_,rfl⟩
   rw [hy1.out] at cw2 b1 hkey
   rw [hy2.out] at cw2 b2 hkey
   have cl:=fun W=>least_any s hle.out hv.out.1 hv.out.2 W
   have cn:∀ W:World,Calls Tryz.prog 124 #[.int .u64 (y1:Int),.int .u64 (y2:Int),.int .u64 0] W fun e w'=>e = .returned (.agg (nRow (numN y1 y2 0)))∧Below W.heap.size W w':=fun W=>numberOf_any y1 y2 0 b1 b2 (by omega) W
   have hnl:(numN y1 y2 0).le 67108863:=numN_le ⟨by omega,by omega⟩ ⟨by omega,by omega⟩ ⟨by omega,by omega⟩
   have cp:=fun W=>plus_any (leastN s) (numN y1 y2 0) (hall.1.mono (by decide)) (hnl.mono (by decide)) W
   have co:=fun W=>nLowest_any (addN (leastN s) (numN y1 y2 0)) ((addN_le hall.1 hnl).mono (by decide)) W
   have hv2:(addN (leastN s) (numN y1 y2 0)).val=accP (factN key).val b ((b.length + 15) / 16) + ((leN (key.drop 16):Nat):Int):=by
    rw [addN_val,hall.2.1,hacc.out,numN_val,hkey,hf.out,HN.out,hkk]
    omega
   have hres:lowB 16 ((addN (leastN s) (numN y1 y2 0)).val % 340282366920938463463374607431768211456).toNat=polyTag key b:=by
    rw [hv2];rfl
   obtain ⟨sm,hsm⟩:∃ x,Hid (addN (leastN s) (numN y1 y2 0)=x):=⟨_,rfl⟩
   obtain ⟨ls,hls⟩:∃ x,Hid (leastN s=x):=⟨_,rfl⟩
   obtain ⟨nn,hnn⟩:∃ x,Hid (numN y1 y2 0=x):=⟨_,rfl⟩
   rw [hres,hsm.out] at co
   rw [hsm.out,hls.out,hnn.out] at cp
   rw [hls.out] at cl
   rw [hnn.out] at cn
   obtain ⟨T,hT⟩:∃ T,Hid (polyTag key b=T):=⟨_,rfl⟩
   have hTl:T.length=16:=by rw [← hT.out];exact polyTag_len _ _
   rw [hT.out] at co
   have S0:=bs.out
   clear r16 hkey hall hnl hv2 hres hkk
   go_wp2_with (first
    | (go_at_call 123;((with_reducible refine cw2.mono ?_);rintro e w' ⟨rfl,rfl⟩))
    | (refine wpList_load_row rfl 183 (.tmp 8) rfl S rfl 183 (nRow s) (0,0) _ S0 Tryz.underlying183 rfl (E5.out _) ?_)
    | (go_at_call 128;((with_reducible refine (cl _).mono ?_);rintro e w3 ⟨rfl,hb3⟩))
    | (go_at_call 124;((with_reducible refine (cn _).mono ?_);rintro e w4 ⟨rfl,hb4⟩))
    | (go_at_call 125;((with_reducible refine (cp _).mono ?_);rintro e w5 ⟨rfl,hb5⟩))
    | (go_at_call 129;((with_reducible refine (co _).mono ?_);rintro e w6 ⟨rfl,hb6⟩);have X6:Below wr.heap.size wr w6:=(hb3.trans ((hb4.mono hb3.size).trans ((hb5.mono (Nat.le_trans hb3.size hb4.size)).trans (hb6.mono (Nat.le_trans (Nat.le_trans hb3.size hb4.size) hb5.size)))));have A6:=ba.out.below X6 ba.out.lt)
    | (refine wpList_put_row rfl 150 (.tmp 4) (.tmp 48) rfl (w.heap.size + 1) (rowOf T) rfl rfl 150 (rowOf (zbytes 16)) A6 (E16.out _ hTl) (by rw [rowOf_size,rowOf_size,hTl,zbytes_len]) (bytes_one _) ?_;intro w12 k12 g12 s12))
   have X7:=hbl.out.trans (X6.mono hbl.out.size)
   exact bodyPost_ret (results_cell_row Tryz.results105 _ _ (w.heap.size + 1) 150 _ (0,0) _ rfl k12 Tryz.underlying150 rfl (E16.out _ hTl)) rfl ⟨by rw [hT.out],X7.grown g12 X7.size (fun i hi=>by injection hi with hi;omega)⟩
  ·have hlt:16 * k < n:=by
    have h:=hm.out
    rw [List.length_drop,HN.out] at h
    omega
   obtain ⟨r,hr⟩:∃ r,r=min 16 m:=⟨_,rfl⟩
   have hmn:(if (16:Int) < (m:Int) then (16:Int) else (m:Int))=(r:Int):=by split <;> omega
   have hr1:0 < r:=by omega
   have hr2:r≤16:=by omega
   have hr3:r≤m:=by omega
   have hpl:((b.drop (16 * k)).take 16).length=r:=by rw [List.length_take,hm.out,hr]
   have hdrop:(b.drop (16 * k)).drop r=b.drop (16 * (k + 1)):=by
    rw [List.drop_drop]
    rcases Nat.lt_or_ge m 16 with h | h
    ·have h2:=hm.out
     rw [List.length_drop,HN.out] at h2
     rw [List.drop_eq_nil_of_le (by rw [HN.out];omega),List.drop_eq_nil_of_le (by rw [HN.out];omega)]
    ·rw [show 16 * k + r=16 * (k + 1) by omega]
   have hpr:=hrd.out.take 16
   have hnext:=accP_step s f (partN ((b.drop (16 * k)).take 16)) (accP f.val b k) _ (partN_val _ (by rw [hpl];omega)) hacc.out
   have hpn:=partN_le ((b.drop (16 * k)).take 16) (by rw [hpl];omega)
   have hacc2:accP f.val b (k + 1)=(accP f.val b k + ((leN ((b.drop (16 * k)).take 16) + 256 ^ ((b.drop (16 * k)).take 16).length:Nat):Int)) * f.val % primeP:=rfl
   rw [← hacc2] at hnext
   have cpo:∀ W:World,Below wr.heap.size wr W→Calls Tryz.prog 126 #[.slice A' r c'] W fun e w'=>e = .returned (.agg (nRow (partN ((b.drop (16 * k)).take 16))))∧Below wr.heap.size wr w':=fun W h=>(partOf_any A' r c' _ W hpl hr1 hr2 ((hpr.below (h.mono hbl.out.size)).more (Nat.le_trans hbl.out.size h.size))).mono fun e w' hh=>⟨hh.1,h.trans (hh.2.mono h.size)⟩
   obtain ⟨p,hp⟩:∃ p,Hid (partN ((b.drop (16 * k)).take 16)=p):=⟨_,rfl⟩
   rw [hp.out] at hnext hpn cpo
   have hC0:Below wr.heap.size wr { wr with drawn:=wr.drawn + 1 }:=(Below.refl _ _).drew
   generalize (b.drop (16 * k)).take 16=part at hpr cpo
   have hadd:(addN s p).le 268435456:=(addN_le hle.out hpn).mono (by decide)
   have cpl:∀ W:World,Below wr.heap.size wr W→Calls Tryz.prog 125 #[.agg (nRow s),.agg (nRow p)] W fun e w'=>e = .returned (.agg (nRow (addN s p)))∧Below wr.heap.size wr w':=fun W h=>(plus_any s p (hle.out.mono (by decide)) (hpn.mono (by decide)) W).mono fun e w' hh=>⟨hh.1,h.trans (hh.2.mono h.size)⟩
   have cti:∀ W:World,Below wr.heap.size wr W→Calls Tryz.prog 127 #[.agg (nRow (addN s p)),.agg (nRow f)] W fun e w'=>e = .returned (.agg (nRow (redN (mulN (addN s p) f))))∧Below wr.heap.size wr w':=fun W h=>(times_any (addN s p) f hadd hfl W).mono fun e w' hh=>⟨hh.1,h.trans (hh.2.mono h.size)⟩
   have hra:=redN_all ((mulN_le hadd hfl).mono (show (378302363061977088:Int)≤1000000000000000000 by decide))
   have hnx:=hnext hra.2.2.2
   have CPO:=hid_ cpo
   have CPL:=hid_ cpl
   have CTI:=hid_ cti
   have HRA:=hid_ hra
   have HNX:=hid_ hnx
   obtain ⟨s',hs'⟩:∃ s',Hid (redN (mulN (addN s p) f)=s'):=⟨_,rfl⟩
   obtain ⟨sp,hsp⟩:∃ sp,Hid (addN s p=sp):=⟨_,rfl⟩
   rw [hs'.out] at HRA HNX CTI
   rw [hsp.out] at CPL CTI
   have hsl:=slice_to A' m c' (r:Int) r rfl (by omega)
   have hsf:=slice_from A' m c' r hr3
   have hmp:(0:Int) < (m:Int):=by omega
   clear hr cpo cpl cti hra hnx hnext hacc2 hpr hadd
   go_upto_region 6 with fail
   refine region_quiet_tail (C:=fun W=>Below wr.heap.size wr W) 8 (by kernel_rfl) (by kernel_rfl) hC0 ?_
   simp only [List.take_succ_cons,List.take_zero]
   repeat (go_big_quiet_want;(first
    | (refine BigFrame.quiet_move _ rfl ?_;go_simp)
    | (refine quiet_load_rowq 183 (.tmp 8) rfl S rfl 183 (nRow s) _ Tryz.underlying183 rfl (E5.out _) (fun W h=>bs.out.below h bs.out.lt) ?_;go_simp)
    | (refine quiet_load_rowq 183 (.tmp 7) rfl R rfl 183 (nRow f) _ Tryz.underlying183 rfl (E5.out _) (fun W h=>bf.out.below h bf.out.lt) ?_;go_simp)
    | (refine quiet_run (.slice A' r c') ?_ ?_;(focus (intro W hW;go_simp;done));go_simp)
    | (refine quiet_call (.agg (nRow p)) 126 #[.slice A' r c'] ?_ CPO.out ?_;(focus (intro W;go_simp;done));go_simp)
    | (refine quiet_call (.agg (nRow sp)) 125 #[.agg (nRow s),.agg (nRow p)] ?_ CPL.out ?_;(focus (intro W;go_simp;done));go_simp)
    | (refine quiet_call (.agg (nRow s')) 127 #[.agg (nRow sp),.agg (nRow f)] ?_ CTI.out ?_;(focus (intro W;go_simp;done));go_simp));go_big_quiet_on)
   refine wpQuiet_nil ?_
   intro W hW
   simp only [List.drop_succ_cons,List.drop_zero]
   have hW2:=hid_ hW
   have S3:=bs.out.below hW bs.out.lt
   have Sl:=bs.out.lt
   clear hW
   go_wp2_with (refine wpList_put_row rfl 183 (.tmp 8) (.tmp 33) rfl S (nRow s') rfl rfl 183 (nRow s) S3 (E5.out _) rfl (nRow_one _) ?_;intro w5 k5 g5 s5)
   have x5:=(hbl.out.trans (hW2.out.mono hbl.out.size)).grown g5 (Nat.le_trans hbl.out.size hW2.out.size) (fun i hi=>by injection hi with hi;omega)
   have hfin:Rd w5 w.heap.size (if c' = r then A' else A'.map (·.add r)) (b.drop (16 * (k + 1))):=by
    rw [← hdrop]
    refine rd_from ?_ c' r (by rw [hm.out];exact hr3) (by rw [hm.out];exact hmc)
    exact hrd.out.keep (fun q hq=>(x5.cell hq).trans (hbl.out.cell hq).symm)
   go_roundw
   case rel =>
    exact ⟨k + 1,m - r,_,c' - r,s',rfl,by omega,by omega,by omega,(by show _=_;rw [← hdrop,List.length_drop,hm.out]),hfin,(bk.out.below hW2.out bk.out.lt).grown g5 (fun e=>by injection e with e;omega),(ba.out.below hW2.out ba.out.lt).grown g5 (fun e=>by injection e with e;omega),(bf.out.below hW2.out bf.out.lt).grown g5 (fun e=>by injection e with e;omega),k5,HRA.out.1,⟨HRA.out.2.1,HRA.out.2.2.1⟩,HNX.out,x5⟩
   case measure=>simp [lenOf];omega
end Go.Proofs.YtpcbmnmgefhaaaaGreatDoor
