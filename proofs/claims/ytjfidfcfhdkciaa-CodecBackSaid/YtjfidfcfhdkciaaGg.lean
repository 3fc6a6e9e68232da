/-
  A part that is put: the document's bytes of it, and whether it is one.
-/
import Derived.Test.YtjfidfcfhdkciaaGf
import Derived.Test.YtjfidfcfhdkciaaBx
import Derived.Deep.DeepCutAuto
namespace Go.Proofs.Ytjfidfcfhdkciaa
open Go.ChangeShapes Go.WideShapes Go.ChangeAt Go.RowKit
set_option linter.unusedVariables false
set_option linter.unusedSimpArgs false

def partS (p : PartV) : List UInt8 × Bool :=
  if p.k = 0 then (numL p.num, decide (0 ≤ p.num)) else if p.k = 1 then (smallL p.num, decide (0 ≤ p.num ∧ p.num < 256)) else if p.k = 2 then (p.text.take 200, true) else (highB 4 (p.text.take 200).length ++ p.text.take 200, true)
theorem Untouched.sup {F G : List Nat} {w w' : World} (h : Untouched F w w') (hs : ∀ k ∈ F, k ∈ G) : Untouched G w w' := ⟨h.os, h.tape, h.output, h.size, fun k hk hn => h.block k hk fun hm => hn (hs k hm)⟩
theorem trim_sub (w : World) (F : List Nat) : ∀ k ∈ trim w F, k ∈ F := fun k hk => (mem_trim.1 hk).1
theorem Own8.rdf {w : World} {B m c : Nat} {F : List Nat} {A : Option Addr} {y : List UInt8} (hO : Own8 w B (.slice A m c) y) (h : ∀ k ∈ F, k < B) : RdF w F A y := fun hn => by
  obtain ⟨_, _, _, _, hbd⟩ := hO.form
  obtain ⟨b, off, e, hlt, hc⟩ := hO.rd.1 hn
  refine ⟨b, off, e, fun hm => ?_, hlt, hc⟩
  have h1 := (hbd b (by rw [e]; rfl)).1
  have h2 := h b hm
  omega
/-- What stands while the text is turned: the Out, and the text that is the call's own. -/
def PpS (w : World) (g : Nat) (L : List UInt8) (bad : Bool) (F : List Nat) (A : Option Addr) (m c : Nat) (W : World) : Prop :=
  ∃ F', OutF W g L bad F' ∧ Grew w F F' ∧ Untouched F w W ∧ (∃ t, t.length = m ∧ Own8 W (w.heap.size + 1) (.slice A m c) t) ∧ ∀ b, (Value.slice A m c).ownBlock = some b → b ∉ F'
section
variable {w w1 w3 w4 w5 W : World} {g m c : Nat} {L t : List UInt8} {bad : Bool} {F F4 : List Nat} {A : Option Addr}
theorem PpS.of (hO : OutF w4 g L bad F4) (hG : Grew w3 (trim w F) F4) (hU : Untouched (trim w F) w3 w4) (X3 : Below w.heap.size w w3) (O3 : Own8 w3 (w.heap.size + 1) (.slice A m c) t) (hm : t.length = m) (hb : Below w4.heap.size w4 w5) : PpS w g L bad F A m c w5 := by
  obtain ⟨_, _, _, _, hbd⟩ := O3.form
  have hs := X3.size
  refine ⟨F4, hO.below hb, fun k hk => ?_, ?_, ⟨t, hm, ?_⟩, fun b hv hk => ?_⟩
  · rcases hG k hk with h1 | h1
    · exact .inl (mem_trim.1 h1).1
    · exact .inr (by omega)
  · exact ((Untouched.of_below X3).trans (Grew.refl _ _) (hU.sup (trim_sub w F))).trans (Grew.refl _ _) (Untouched.of_below hb)
  · exact (O3.at_ fun b hv => hU.block b (hbd b hv).2 fun hk => by have := (mem_trim.1 hk).2; have := (hbd b hv).1; omega).below hb (Nat.le_refl _)
  · have h1 := hbd b hv
    rcases hG b hk with h2 | h2
    · have := (mem_trim.1 h2).2
      omega
    · omega
theorem PpS.turn (h : PpS w g L bad F A m c W) {b k : Nat} (hA : A = some ⟨b, 0, none⟩) (v : UInt8) : PpS w g L bad F A m c (W.setCell ⟨b, k, none⟩ (.int .u8 ((v.toNat : Nat) : Int))) := by
  obtain ⟨F', hO, hG, hU, ⟨t, hm, ho⟩, hd⟩ := h
  subst hA
  obtain ⟨h1, h2⟩ := ho.put_ k v
  have hbF : b ∉ F' := hd b rfl
  have hbw : w.heap.size + 1 ≤ b := h2
  refine ⟨F', hO.apart (G := [b]) (Untouched.set b k (by simp) _) (fun j hj hm => by rcases List.mem_singleton.1 hm with rfl; exact hbF hj), hG, ?_, ⟨_, by rw [List.length_set]; exact hm, h1⟩, hd⟩
  have hx : Below w.heap.size W (W.setCell ⟨b, k, none⟩ (.int .u8 ((v.toNat : Nat) : Int))) := (Below.refl _ _).setCell (p := ⟨b, k, none⟩) (by show w.heap.size ≤ b; omega) _
  exact ⟨hx.os.trans hU.os, hx.tape.trans hU.tape, hx.output.trans hU.output, Nat.le_trans hU.size hx.size, fun j hj hn => (hx.block j hj).trans (hU.block j hj hn)⟩
end
theorem Bk.three {w : World} {g : Nat} {ty : TypeId} {a b c : Value} (h : Bk w g ty #[a, b, c]) : w.cell? ⟨g, 0, none⟩ = some a ∧ w.cell? ⟨g, 1, none⟩ = some b ∧ w.cell? ⟨g, 2, none⟩ = some c := by
  have h0 := h.cell 0
  have h1 := h.cell 1
  have h2 := h.cell 2
  simp only [List.getElem?_toArray, List.getElem?_cons_zero, List.getElem?_cons_succ] at h0 h1 h2
  exact ⟨h0, h1, h2⟩
/-- What a part's act leaves. -/
def PpP (w : World) (g : Nat) (L : List UInt8) (bad : Bool) (F : List Nat) (s : List UInt8) (ok : Bool) (e : Ending) (w' : World) : Prop :=
  e = .returned (.tuple #[.string (strOf s), .bool ok]) ∧ ∃ F', OutF w' g L bad F' ∧ Grew w F F' ∧ Untouched F w w'

set_option maxRecDepth 100000 in
set_option maxHeartbeats 4000000 in
theorem part0_neg (w : World) (g : Nat) (l : List UInt8) (bad : Bool) (F : List Nat) (p : PartV) (m : Nat) (hp : PartOk w w.heap.size p) (h : OutF w g l bad F) (hm : (p.text.take 200).length = m) (hs : l.length + 300 ≤ 140737488355328) (hk : p.k = 0) (hy : p.num < 0) :
    Calls Try.prog 17 #[p.agg, .pointer (some ⟨g, 0, none⟩)] w (PpP w g l true F [] false) := by
  have B0 := (Below.refl w.heap.size w).alloc (Nat.le_refl _) (.cells #[.int .i64 p.kind, .int .i64 p.num, .slice p.at_ p.text.length p.cap] 36)
  have ct := text_any (w.alloc (.cells #[.int .i64 p.kind, .int .i64 p.num, .slice p.at_ p.text.length p.cap] 36)) p m (by
    obtain ⟨k0, k1, n0, n1, hr, hlc, hcm⟩ := hp.below B0
    exact ⟨k0, k1, n0, n1, hr.more B0.size, hlc, hcm⟩) hm
  have ck : ∀ W, Calls Try.prog 18 #[p.agg] W fun e w' => e = .returned (.int .i64 0) ∧ Below W.heap.size W w' := fun W => by
    have h := kind_any W p
    rw [hk] at h
    exact h
  have hn0 := hp.n0
  have hn1 := hp.n1
  have HBX := hidg_ (Bk.new w 36 #[.int .i64 p.kind, .int .i64 p.num, .slice p.at_ p.text.length p.cap])
  have HOT := hidg_ (OutF.trim h)
  have m200 : m ≤ 200 := by rw [← hm, List.length_take]; omega
  clear hp h hk
  unfold PartV.agg at *
  generalize p.kind = z at *
  generalize p.num = y at *
  generalize p.text.take 200 = t at *
  generalize p.text.length = n at *
  generalize p.at_ = A0 at *
  generalize p.cap = c0 at *
  have HM := hidg_ hm
  have HS := hidg_ hs
  clear hm hs
  obtain ⟨w1, hw1⟩ : ∃ w1, w.alloc (.cells #[.int .i64 z, .int .i64 y, .slice A0 n c0] 36) = w1 := ⟨_, rfl⟩
  have H1S := hidg_ (show w1.heap.size = w.heap.size + 1 by rw [← hw1]; simp)
  rw [hw1] at ct B0 HBX
  have HB0 := hidg_ B0
  clear B0
  have hd0 : decide (y < 0) = true := decide_eq_true hy
  have hd9 : decide (0 ≤ y) = false := decide_eq_false (by omega)
  have hSS : numL y = [] := if_pos hy
  go_enter Try.func17, Try.ntmps17
  go_upto_region 1 with fail
  clear hw1
  obtain ⟨e10, e11, e12⟩ := HBX.out.three
  go_upto_region 8 with (first
    | (go_at_call 20; ((with_reducible refine ct.mono ?_); rintro e w2 ⟨A, c, rfl, ho, hb⟩; have O2 := hidg_ ho; have X2 := hidg_ hb; have B2 := hidg_ (HBX.out.below hb HBX.out.lt); clear ho hb; obtain ⟨e20, e21, e22⟩ := B2.out.three; have ck2 := ck w2))
    | (go_at_call 18; ((with_reducible refine ck2.mono ?_); rintro e w3 ⟨rfl, hb⟩; have O3 := hidg_ (O2.out.below hb (Nat.le_refl _)); have X3 := hidg_ (HB0.out.trans ((X2.out.trans (hb.mono X2.out.size)).mono HB0.out.size)); have B3 := hidg_ (B2.out.below hb B2.out.lt); clear hb; obtain ⟨e30, e31, e32⟩ := B3.out.three; have h3 := hidg_ (HOT.out.apart (G := []) (.of_below X3.out) fun _ _ => by simp); rw [H1S.out] at O3))
    | (go_at_call 13; have cp := num_neg w3 g l bad (trim w F) y h3.out hy; ((with_reducible refine cp.mono ?_); clear cp; rintro e w4 ⟨rfl, F4, hO, hG, hU⟩; have O4 := hidg_ hO; have G4 := hidg_ hG; have U4 := hidg_ hU; clear hO hG hU)))
  have B4 := hidg_ (B3.out.untouched U4.out (fun hk => absurd (mem_trim.1 hk).2 (Nat.lt_irrefl _)))
  have W6 : Hid (∀ W : World, Below w4.heap.size w4 W → W.cell? ⟨w.heap.size, 1, none⟩ = some (.int .i64 y)) := hidg_ (fun W h => ((B4.out.below h B4.out.lt).three).2.1)
  have P1 : Hid (∀ W : World, Below w4.heap.size w4 W → Calls Try.prog 54 #[.int .i64 y] W fun e w' => e = .returned (.string (strOf [])) ∧ Below w4.heap.size w4 w') := hidg_ (fun W h => (refNum_any W y hn1).mono fun e w' hh => ⟨by rw [hh.1, hSS], h.trans (hh.2.mono h.size)⟩)
  refine region_quiet_in (C := fun W => Below w4.heap.size w4 W) (by kernel_rfl) (by kernel_rfl) ((Below.refl _ _).drew) ?_
  repeat (first | go_big_quiet_skip | (go_big_quiet_want; (first
    | (refine BigFrame.quiet_move _ rfl ?_; go_simp)
    | (refine BigFrame.quiet_assign _ rfl ?_; go_simp)
    | (refine quiet_run (.pointer (some ⟨w.heap.size, 1, none⟩)) ?_ ?_; (focus (intro W hW; go_simp; done)); go_simp)
    | (refine quiet_run (.int .i64 y) ?_ ?_; (focus (intro W hW; have h := W6.out W hW; go_simp; done)); go_simp)
    | (refine quiet_call (.string (strOf [])) 54 #[.int .i64 y] ?_ P1.out ?_; (focus (intro W; go_simp; done)); go_simp)
    | (refine quiet_run (.bool false) ?_ ?_; (focus (intro W hW; go_simp; done)); go_simp)
    | (refine quiet_run (.bool (! false)) ?_ ?_; (focus (intro W hW; go_simp; done)); go_simp)); go_big_quiet_on))
  refine wpQuiet_nil ?_
  intro w5 hw5
  have X5 : Hid (Below w4.heap.size w4 w5) := hidg_ hw5
  clear hw5 W6 P1
  have HP5 : Hid (PpS w g l true F A m c w5) := hidg_ (PpS.of O4.out G4.out U4.out X3.out O3.out HM.out X5.out)
  clear e10 e11 e12 e20 e21 e22 e30 e31 e32
  go_wp2
  go_loopw [9] (fun i wr => ∃ k : Nat, k ≤ m ∧ i = .int .i64 k ∧ Hid (PpS w g l true F A m c wr)) (fun i _ => m - (intOf i).toNat)
  case atStart => exact ⟨0, Nat.zero_le _, rfl, HP5⟩
  case round =>
    obtain ⟨k, hk, rfl, HS9⟩ := hrel
    clear HP5
    by_cases hlt : k < m
    · have hd1 : decide ((k : Int) < (m : Int)) = true := decide_eq_true (by omega)
      have hd2 : decide (k < m) = true := decide_eq_true hlt
      obtain ⟨_, _, _, _, ⟨lk, hlk, hok⟩, _⟩ := HS9.out
      obtain ⟨b, hAb⟩ := hok.block_ (by omega)
      have HT0 := fun v : UInt8 => hidg_ (HS9.out.turn hAb (k := k) v)
      rw [hAb] at hok HT0 ⊢
      have hcell := hok.cellz k (by omega)
      have hfro := hok.frozenz k
      obtain ⟨v, hv⟩ : ∃ v, lk.getD k 0 = v := ⟨_, rfl⟩
      rw [hv] at hcell
      have hxor : bits .xor .u8 ((v.toNat : Nat) : Int) 1 = (((v ^^^ 1).toNat : Nat) : Int) := xor8 v 1
      have HT := HT0 (v ^^^ 1)
      have t0 : (0 : Int) ≤ (k : Int) := by omega
      have t1 : (k : Int) < (m : Int) := by omega
      clear hok hv hlk HT0 HS9
      go_wp2
      go_roundw
      case rel => exact ⟨k + 1, by omega, by go_num, HT⟩
      case measure => simp [intOf]; omega
    · have hd1 : decide ((k : Int) < (m : Int)) = false := decide_eq_false (by omega)
      have hd2 : decide (k < m) = false := decide_eq_false hlt
      go_wp2
      go_ret2
      obtain ⟨F', h1, h2, h3, _, _⟩ := HS9.out
      exact ⟨rfl, F', h1, h2, h3⟩

set_option maxRecDepth 100000 in
set_option maxHeartbeats 4000000 in
theorem part0_pos (w : World) (g : Nat) (l : List UInt8) (bad : Bool) (F : List Nat) (p : PartV) (m : Nat) (hp : PartOk w w.heap.size p) (h : OutF w g l bad F) (hm : (p.text.take 200).length = m) (hs : l.length + 300 ≤ 140737488355328) (hk : p.k = 0) (q : Nat) (hy : p.num = (q : Int)) :
    Calls Try.prog 17 #[p.agg, .pointer (some ⟨g, 0, none⟩)] w (PpP w g (l ++ highB 8 q) bad F (highB 8 q) true) := by
  have B0 := (Below.refl w.heap.size w).alloc (Nat.le_refl _) (.cells #[.int .i64 p.kind, .int .i64 p.num, .slice p.at_ p.text.length p.cap] 36)
  have ct := text_any (w.alloc (.cells #[.int .i64 p.kind, .int .i64 p.num, .slice p.at_ p.text.length p.cap] 36)) p m (by
    obtain ⟨k0, k1, n0, n1, hr, hlc, hcm⟩ := hp.below B0
    exact ⟨k0, k1, n0, n1, hr.more B0.size, hlc, hcm⟩) hm
  have ck : ∀ W, Calls Try.prog 18 #[p.agg] W fun e w' => e = .returned (.int .i64 0) ∧ Below W.heap.size W w' := fun W => by
    have h := kind_any W p
    rw [hk] at h
    exact h
  have hn0 := hp.n0
  have hn1 := hp.n1
  have HBX := hidg_ (Bk.new w 36 #[.int .i64 p.kind, .int .i64 p.num, .slice p.at_ p.text.length p.cap])
  have HOT := hidg_ (OutF.trim h)
  have m200 : m ≤ 200 := by rw [← hm, List.length_take]; omega
  clear hp h hk
  unfold PartV.agg at *
  generalize p.kind = z at *
  generalize p.num = y at *
  generalize p.text.take 200 = t at *
  generalize p.text.length = n at *
  generalize p.at_ = A0 at *
  generalize p.cap = c0 at *
  have HM := hidg_ hm
  have HS := hidg_ hs
  clear hm hs
  obtain ⟨w1, hw1⟩ : ∃ w1, w.alloc (.cells #[.int .i64 z, .int .i64 y, .slice A0 n c0] 36) = w1 := ⟨_, rfl⟩
  have H1S := hidg_ (show w1.heap.size = w.heap.size + 1 by rw [← hw1]; simp)
  rw [hw1] at ct B0 HBX
  have HB0 := hidg_ B0
  clear B0
  subst hy
  have hd0 : decide ((q : Int) < 0) = false := decide_eq_false (by omega)
  have hd9 : decide (0 ≤ (q : Int)) = true := decide_eq_true (by omega)
  have hSS0 : numL (q : Int) = highB 8 q := if_neg (by omega)
  obtain ⟨s, hsq⟩ : ∃ s, highB 8 q = s := ⟨_, rfl⟩
  have hSS : numL (q : Int) = s := hSS0.trans hsq
  have CN := fun (W : World) (h : OutF W g l bad (trim w F)) => num_any W g l bad (trim w F) q h (by omega) (by have := HS.out; omega)
  rw [hsq] at CN ⊢
  go_enter Try.func17, Try.ntmps17
  go_upto_region 1 with fail
  clear hw1
  obtain ⟨e10, e11, e12⟩ := HBX.out.three
  go_upto_region 8 with (first
    | (go_at_call 20; ((with_reducible refine ct.mono ?_); rintro e w2 ⟨A, c, rfl, ho, hb⟩; have O2 := hidg_ ho; have X2 := hidg_ hb; have B2 := hidg_ (HBX.out.below hb HBX.out.lt); clear ho hb; obtain ⟨e20, e21, e22⟩ := B2.out.three; have ck2 := ck w2))
    | (go_at_call 18; ((with_reducible refine ck2.mono ?_); rintro e w3 ⟨rfl, hb⟩; have O3 := hidg_ (O2.out.below hb (Nat.le_refl _)); have X3 := hidg_ (HB0.out.trans ((X2.out.trans (hb.mono X2.out.size)).mono HB0.out.size)); have B3 := hidg_ (B2.out.below hb B2.out.lt); clear hb; obtain ⟨e30, e31, e32⟩ := B3.out.three; have h3 := hidg_ (HOT.out.apart (G := []) (.of_below X3.out) fun _ _ => by simp); rw [H1S.out] at O3))
    | (go_at_call 13; have cp := CN w3 h3.out; ((with_reducible refine cp.mono ?_); clear cp; rintro e w4 ⟨rfl, F4, hO, hG, hU⟩; have O4 := hidg_ hO; have G4 := hidg_ hG; have U4 := hidg_ hU; clear hO hG hU)))
  have B4 := hidg_ (B3.out.untouched U4.out (fun hk => absurd (mem_trim.1 hk).2 (Nat.lt_irrefl _)))
  have W6 : Hid (∀ W : World, Below w4.heap.size w4 W → W.cell? ⟨w.heap.size, 1, none⟩ = some (.int .i64 (q : Int))) := hidg_ (fun W h => ((B4.out.below h B4.out.lt).three).2.1)
  have P1 : Hid (∀ W : World, Below w4.heap.size w4 W → Calls Try.prog 54 #[.int .i64 (q : Int)] W fun e w' => e = .returned (.string (strOf s)) ∧ Below w4.heap.size w4 w') := hidg_ (fun W h => (refNum_any W (q : Int) hn1).mono fun e w' hh => ⟨by rw [hh.1, hSS], h.trans (hh.2.mono h.size)⟩)
  refine region_quiet_in (C := fun W => Below w4.heap.size w4 W) (by kernel_rfl) (by kernel_rfl) ((Below.refl _ _).drew) ?_
  repeat (first | go_big_quiet_skip | (go_big_quiet_want; (first
    | (refine BigFrame.quiet_move _ rfl ?_; go_simp)
    | (refine BigFrame.quiet_assign _ rfl ?_; go_simp)
    | (refine quiet_run (.pointer (some ⟨w.heap.size, 1, none⟩)) ?_ ?_; (focus (intro W hW; go_simp; done)); go_simp)
    | (refine quiet_run (.int .i64 (q : Int)) ?_ ?_; (focus (intro W hW; have h := W6.out W hW; go_simp; done)); go_simp)
    | (refine quiet_call (.string (strOf s)) 54 #[.int .i64 (q : Int)] ?_ P1.out ?_; (focus (intro W; go_simp; done)); go_simp)
    | (refine quiet_run (.bool true) ?_ ?_; (focus (intro W hW; go_simp; done)); go_simp)
    | (refine quiet_run (.bool (! true)) ?_ ?_; (focus (intro W hW; go_simp; done)); go_simp)); go_big_quiet_on))
  refine wpQuiet_nil ?_
  intro w5 hw5
  have X5 : Hid (Below w4.heap.size w4 w5) := hidg_ hw5
  clear hw5 W6 P1
  have HP5 : Hid (PpS w g (l ++ s) bad F A m c w5) := hidg_ (PpS.of O4.out G4.out U4.out X3.out O3.out HM.out X5.out)
  clear e10 e11 e12 e20 e21 e22 e30 e31 e32
  go_wp2
  go_loopw [9] (fun i wr => ∃ k : Nat, k ≤ m ∧ i = .int .i64 k ∧ Hid (PpS w g (l ++ s) bad F A m c wr)) (fun i _ => m - (intOf i).toNat)
  case atStart => exact ⟨0, Nat.zero_le _, rfl, HP5⟩
  case round =>
    obtain ⟨k, hk, rfl, HS9⟩ := hrel
    clear HP5
    by_cases hlt : k < m
    · have hd1 : decide ((k : Int) < (m : Int)) = true := decide_eq_true (by omega)
      have hd2 : decide (k < m) = true := decide_eq_true hlt
      obtain ⟨_, _, _, _, ⟨lk, hlk, hok⟩, _⟩ := HS9.out
      obtain ⟨b, hAb⟩ := hok.block_ (by omega)
      have HT0 := fun v : UInt8 => hidg_ (HS9.out.turn hAb (k := k) v)
      rw [hAb] at hok HT0 ⊢
      have hcell := hok.cellz k (by omega)
      have hfro := hok.frozenz k
      obtain ⟨v, hv⟩ : ∃ v, lk.getD k 0 = v := ⟨_, rfl⟩
      rw [hv] at hcell
      have hxor : bits .xor .u8 ((v.toNat : Nat) : Int) 1 = (((v ^^^ 1).toNat : Nat) : Int) := xor8 v 1
      have HT := HT0 (v ^^^ 1)
      have t0 : (0 : Int) ≤ (k : Int) := by omega
      have t1 : (k : Int) < (m : Int) := by omega
      clear hok hv hlk HT0 HS9
      go_wp2
      go_roundw
      case rel => exact ⟨k + 1, by omega, by go_num, HT⟩
      case measure => simp [intOf]; omega
    · have hd1 : decide ((k : Int) < (m : Int)) = false := decide_eq_false (by omega)
      have hd2 : decide (k < m) = false := decide_eq_false hlt
      go_wp2
      go_ret2
      obtain ⟨F', h1, h2, h3, _, _⟩ := HS9.out
      exact ⟨rfl, F', h1, h2, h3⟩

set_option maxRecDepth 100000 in
set_option maxHeartbeats 4000000 in
theorem part1_neg (w : World) (g : Nat) (l : List UInt8) (bad : Bool) (F : List Nat) (p : PartV) (m : Nat) (hp : PartOk w w.heap.size p) (h : OutF w g l bad F) (hm : (p.text.take 200).length = m) (hs : l.length + 300 ≤ 140737488355328) (hk : p.k = 1) (hy : p.num < 0) :
    Calls Try.prog 17 #[p.agg, .pointer (some ⟨g, 0, none⟩)] w (PpP w g l true F [] false) := by
  have B0 := (Below.refl w.heap.size w).alloc (Nat.le_refl _) (.cells #[.int .i64 p.kind, .int .i64 p.num, .slice p.at_ p.text.length p.cap] 36)
  have ct := text_any (w.alloc (.cells #[.int .i64 p.kind, .int .i64 p.num, .slice p.at_ p.text.length p.cap] 36)) p m (by
    obtain ⟨k0, k1, n0, n1, hr, hlc, hcm⟩ := hp.below B0
    exact ⟨k0, k1, n0, n1, hr.more B0.size, hlc, hcm⟩) hm
  have ck : ∀ W, Calls Try.prog 18 #[p.agg] W fun e w' => e = .returned (.int .i64 1) ∧ Below W.heap.size W w' := fun W => by
    have h := kind_any W p
    rw [hk] at h
    exact h
  have hn0 := hp.n0
  have hn1 := hp.n1
  have HBX := hidg_ (Bk.new w 36 #[.int .i64 p.kind, .int .i64 p.num, .slice p.at_ p.text.length p.cap])
  have HOT := hidg_ (OutF.trim h)
  have m200 : m ≤ 200 := by rw [← hm, List.length_take]; omega
  clear hp h hk
  unfold PartV.agg at *
  generalize p.kind = z at *
  generalize p.num = y at *
  generalize p.text.take 200 = t at *
  generalize p.text.length = n at *
  generalize p.at_ = A0 at *
  generalize p.cap = c0 at *
  have HM := hidg_ hm
  have HS := hidg_ hs
  clear hm hs
  obtain ⟨w1, hw1⟩ : ∃ w1, w.alloc (.cells #[.int .i64 z, .int .i64 y, .slice A0 n c0] 36) = w1 := ⟨_, rfl⟩
  have H1S := hidg_ (show w1.heap.size = w.heap.size + 1 by rw [← hw1]; simp)
  rw [hw1] at ct B0 HBX
  have HB0 := hidg_ B0
  clear B0
  have hd0 : decide (y < 0) = true := decide_eq_true hy
  have hd9 : decide (0 ≤ y) = false := decide_eq_false (by omega)
  have hSS : smallL y = [] := if_neg (by omega)
  go_enter Try.func17, Try.ntmps17
  go_upto_region 1 with fail
  clear hw1
  obtain ⟨e10, e11, e12⟩ := HBX.out.three
  go_upto_region 11 with (first
    | (go_at_call 20; ((with_reducible refine ct.mono ?_); rintro e w2 ⟨A, c, rfl, ho, hb⟩; have O2 := hidg_ ho; have X2 := hidg_ hb; have B2 := hidg_ (HBX.out.below hb HBX.out.lt); clear ho hb; obtain ⟨e20, e21, e22⟩ := B2.out.three; have ck2 := ck w2))
    | (go_at_call 18; ((with_reducible refine ck2.mono ?_); rintro e w3 ⟨rfl, hb⟩; have O3 := hidg_ (O2.out.below hb (Nat.le_refl _)); have X3 := hidg_ (HB0.out.trans ((X2.out.trans (hb.mono X2.out.size)).mono HB0.out.size)); have B3 := hidg_ (B2.out.below hb B2.out.lt); clear hb; obtain ⟨e30, e31, e32⟩ := B3.out.three; have h3 := hidg_ (HOT.out.apart (G := []) (.of_below X3.out) fun _ _ => by simp); rw [H1S.out] at O3))
    | (go_at_call 14; have cp := small_no w3 g l bad (trim w F) y h3.out hn0 hn1 (by omega); ((with_reducible refine cp.mono ?_); clear cp; rintro e w4 ⟨rfl, F4, hO, hG, hU⟩; have O4 := hidg_ hO; have G4 := hidg_ hG; have U4 := hidg_ hU; clear hO hG hU)))
  have B4 := hidg_ (B3.out.untouched U4.out (fun hk => absurd (mem_trim.1 hk).2 (Nat.lt_irrefl _)))
  have W6 : Hid (∀ W : World, Below w4.heap.size w4 W → W.cell? ⟨w.heap.size, 1, none⟩ = some (.int .i64 y)) := hidg_ (fun W h => ((B4.out.below h B4.out.lt).three).2.1)
  have P1 : Hid (∀ W : World, Below w4.heap.size w4 W → Calls Try.prog 55 #[.int .i64 y] W fun e w' => e = .returned (.string (strOf [])) ∧ Below w4.heap.size w4 w') := hidg_ (fun W h => (refSmall_any W y hn1).mono fun e w' hh => ⟨by rw [hh.1, hSS], h.trans (hh.2.mono h.size)⟩)
  refine region_quiet_in (C := fun W => Below w4.heap.size w4 W) (by kernel_rfl) (by kernel_rfl) ((Below.refl _ _).drew) ?_
  repeat (first | go_big_quiet_skip | (go_big_quiet_want; (first
    | (refine BigFrame.quiet_move _ rfl ?_; go_simp)
    | (refine BigFrame.quiet_assign _ rfl ?_; go_simp)
    | (refine quiet_run (.pointer (some ⟨w.heap.size, 1, none⟩)) ?_ ?_; (focus (intro W hW; go_simp; done)); go_simp)
    | (refine quiet_run (.int .i64 y) ?_ ?_; (focus (intro W hW; have h := W6.out W hW; go_simp; done)); go_simp)
    | (refine quiet_call (.string (strOf [])) 55 #[.int .i64 y] ?_ P1.out ?_; (focus (intro W; go_simp; done)); go_simp)
    | (refine quiet_run (.bool false) ?_ ?_; (focus (intro W hW; go_simp; done)); go_simp)
    | (refine quiet_run (.bool (! false)) ?_ ?_; (focus (intro W hW; go_simp; done)); go_simp)); go_big_quiet_on))
  refine wpQuiet_nil ?_
  intro w5 hw5
  have X5 : Hid (Below w4.heap.size w4 w5) := hidg_ hw5
  clear hw5 W6 P1
  have HP5 : Hid (PpS w g l true F A m c w5) := hidg_ (PpS.of O4.out G4.out U4.out X3.out O3.out HM.out X5.out)
  clear e10 e11 e12 e20 e21 e22 e30 e31 e32
  go_wp2
  go_loopw [9] (fun i wr => ∃ k : Nat, k ≤ m ∧ i = .int .i64 k ∧ Hid (PpS w g l true F A m c wr)) (fun i _ => m - (intOf i).toNat)
  case atStart => exact ⟨0, Nat.zero_le _, rfl, HP5⟩
  case round =>
    obtain ⟨k, hk, rfl, HS9⟩ := hrel
    clear HP5
    by_cases hlt : k < m
    · have hd1 : decide ((k : Int) < (m : Int)) = true := decide_eq_true (by omega)
      have hd2 : decide (k < m) = true := decide_eq_true hlt
      obtain ⟨_, _, _, _, ⟨lk, hlk, hok⟩, _⟩ := HS9.out
      obtain ⟨b, hAb⟩ := hok.block_ (by omega)
      have HT0 := fun v : UInt8 => hidg_ (HS9.out.turn hAb (k := k) v)
      rw [hAb] at hok HT0 ⊢
      have hcell := hok.cellz k (by omega)
      have hfro := hok.frozenz k
      obtain ⟨v, hv⟩ : ∃ v, lk.getD k 0 = v := ⟨_, rfl⟩
      rw [hv] at hcell
      have hxor : bits .xor .u8 ((v.toNat : Nat) : Int) 1 = (((v ^^^ 1).toNat : Nat) : Int) := xor8 v 1
      have HT := HT0 (v ^^^ 1)
      have t0 : (0 : Int) ≤ (k : Int) := by omega
      have t1 : (k : Int) < (m : Int) := by omega
      clear hok hv hlk HT0 HS9
      go_wp2
      go_roundw
      case rel => exact ⟨k + 1, by omega, by go_num, HT⟩
      case measure => simp [intOf]; omega
    · have hd1 : decide ((k : Int) < (m : Int)) = false := decide_eq_false (by omega)
      have hd2 : decide (k < m) = false := decide_eq_false hlt
      go_wp2
      go_ret2
      obtain ⟨F', h1, h2, h3, _, _⟩ := HS9.out
      exact ⟨rfl, F', h1, h2, h3⟩

set_option maxRecDepth 100000 in
set_option maxHeartbeats 4000000 in
theorem part1_big (w : World) (g : Nat) (l : List UInt8) (bad : Bool) (F : List Nat) (p : PartV) (m : Nat) (hp : PartOk w w.heap.size p) (h : OutF w g l bad F) (hm : (p.text.take 200).length = m) (hs : l.length + 300 ≤ 140737488355328) (hk : p.k = 1) (q : Nat) (hy : p.num = (q : Int)) (hq : ¬ q < 256) :
    Calls Try.prog 17 #[p.agg, .pointer (some ⟨g, 0, none⟩)] w (PpP w g l true F [] false) := by
  have B0 := (Below.refl w.heap.size w).alloc (Nat.le_refl _) (.cells #[.int .i64 p.kind, .int .i64 p.num, .slice p.at_ p.text.length p.cap] 36)
  have ct := text_any (w.alloc (.cells #[.int .i64 p.kind, .int .i64 p.num, .slice p.at_ p.text.length p.cap] 36)) p m (by
    obtain ⟨k0, k1, n0, n1, hr, hlc, hcm⟩ := hp.below B0
    exact ⟨k0, k1, n0, n1, hr.more B0.size, hlc, hcm⟩) hm
  have ck : ∀ W, Calls Try.prog 18 #[p.agg] W fun e w' => e = .returned (.int .i64 1) ∧ Below W.heap.size W w' := fun W => by
    have h := kind_any W p
    rw [hk] at h
    exact h
  have hn0 := hp.n0
  have hn1 := hp.n1
  have HBX := hidg_ (Bk.new w 36 #[.int .i64 p.kind, .int .i64 p.num, .slice p.at_ p.text.length p.cap])
  have HOT := hidg_ (OutF.trim h)
  have m200 : m ≤ 200 := by rw [← hm, List.length_take]; omega
  clear hp h hk
  unfold PartV.agg at *
  generalize p.kind = z at *
  generalize p.num = y at *
  generalize p.text.take 200 = t at *
  generalize p.text.length = n at *
  generalize p.at_ = A0 at *
  generalize p.cap = c0 at *
  have HM := hidg_ hm
  have HS := hidg_ hs
  clear hm hs
  obtain ⟨w1, hw1⟩ : ∃ w1, w.alloc (.cells #[.int .i64 z, .int .i64 y, .slice A0 n c0] 36) = w1 := ⟨_, rfl⟩
  have H1S := hidg_ (show w1.heap.size = w.heap.size + 1 by rw [← hw1]; simp)
  rw [hw1] at ct B0 HBX
  have HB0 := hidg_ B0
  clear B0
  subst hy
  have hd9 : decide (0 ≤ (q : Int)) = true := decide_eq_true (by omega)
  have hd8 : decide ((q : Int) < 256) = false := decide_eq_false (by omega)
  have hd7 : decide (q < 256) = false := decide_eq_false hq
  have hSS : smallL (q : Int) = [] := if_neg (by omega)
  go_enter Try.func17, Try.ntmps17
  go_upto_region 1 with fail
  clear hw1
  obtain ⟨e10, e11, e12⟩ := HBX.out.three
  go_upto_region 11 with (first
    | (go_at_call 20; ((with_reducible refine ct.mono ?_); rintro e w2 ⟨A, c, rfl, ho, hb⟩; have O2 := hidg_ ho; have X2 := hidg_ hb; have B2 := hidg_ (HBX.out.below hb HBX.out.lt); clear ho hb; obtain ⟨e20, e21, e22⟩ := B2.out.three; have ck2 := ck w2))
    | (go_at_call 18; ((with_reducible refine ck2.mono ?_); rintro e w3 ⟨rfl, hb⟩; have O3 := hidg_ (O2.out.below hb (Nat.le_refl _)); have X3 := hidg_ (HB0.out.trans ((X2.out.trans (hb.mono X2.out.size)).mono HB0.out.size)); have B3 := hidg_ (B2.out.below hb B2.out.lt); clear hb; obtain ⟨e30, e31, e32⟩ := B3.out.three; have h3 := hidg_ (HOT.out.apart (G := []) (.of_below X3.out) fun _ _ => by simp); rw [H1S.out] at O3))
    | (go_at_call 14; have cp := small_no w3 g l bad (trim w F) (q : Int) h3.out hn0 hn1 (by omega); ((with_reducible refine cp.mono ?_); clear cp; rintro e w4 ⟨rfl, F4, hO, hG, hU⟩; have O4 := hidg_ hO; have G4 := hidg_ hG; have U4 := hidg_ hU; clear hO hG hU)))
  have B4 := hidg_ (B3.out.untouched U4.out (fun hk => absurd (mem_trim.1 hk).2 (Nat.lt_irrefl _)))
  have W6 : Hid (∀ W : World, Below w4.heap.size w4 W → W.cell? ⟨w.heap.size, 1, none⟩ = some (.int .i64 (q : Int))) := hidg_ (fun W h => ((B4.out.below h B4.out.lt).three).2.1)
  have P1 : Hid (∀ W : World, Below w4.heap.size w4 W → Calls Try.prog 55 #[.int .i64 (q : Int)] W fun e w' => e = .returned (.string (strOf [])) ∧ Below w4.heap.size w4 w') := hidg_ (fun W h => (refSmall_any W (q : Int) hn1).mono fun e w' hh => ⟨by rw [hh.1, hSS], h.trans (hh.2.mono h.size)⟩)
  refine region_quiet_in (C := fun W => Below w4.heap.size w4 W) (by kernel_rfl) (by kernel_rfl) ((Below.refl _ _).drew) ?_
  repeat (first | go_big_quiet_skip | (go_big_quiet_want; (first
    | (refine BigFrame.quiet_move _ rfl ?_; go_simp)
    | (refine BigFrame.quiet_assign _ rfl ?_; go_simp)
    | (refine quiet_run (.pointer (some ⟨w.heap.size, 1, none⟩)) ?_ ?_; (focus (intro W hW; go_simp; done)); go_simp)
    | (refine quiet_run (.int .i64 (q : Int)) ?_ ?_; (focus (intro W hW; have h := W6.out W hW; go_simp; done)); go_simp)
    | (refine quiet_call (.string (strOf [])) 55 #[.int .i64 (q : Int)] ?_ P1.out ?_; (focus (intro W; go_simp; done)); go_simp)
    | (refine quiet_run (.bool false) ?_ ?_; (focus (intro W hW; go_simp; done)); go_simp)
    | (refine quiet_run (.bool (! false)) ?_ ?_; (focus (intro W hW; go_simp; done)); go_simp)); go_big_quiet_on))
  refine wpQuiet_nil ?_
  intro w5 hw5
  have X5 : Hid (Below w4.heap.size w4 w5) := hidg_ hw5
  clear hw5 W6 P1
  have HP5 : Hid (PpS w g l true F A m c w5) := hidg_ (PpS.of O4.out G4.out U4.out X3.out O3.out HM.out X5.out)
  clear e10 e11 e12 e20 e21 e22 e30 e31 e32
  go_wp2
  go_loopw [9] (fun i wr => ∃ k : Nat, k ≤ m ∧ i = .int .i64 k ∧ Hid (PpS w g l true F A m c wr)) (fun i _ => m - (intOf i).toNat)
  case atStart => exact ⟨0, Nat.zero_le _, rfl, HP5⟩
  case round =>
    obtain ⟨k, hk, rfl, HS9⟩ := hrel
    clear HP5
    by_cases hlt : k < m
    · have hd1 : decide ((k : Int) < (m : Int)) = true := decide_eq_true (by omega)
      have hd2 : decide (k < m) = true := decide_eq_true hlt
      obtain ⟨_, _, _, _, ⟨lk, hlk, hok⟩, _⟩ := HS9.out
      obtain ⟨b, hAb⟩ := hok.block_ (by omega)
      have HT0 := fun v : UInt8 => hidg_ (HS9.out.turn hAb (k := k) v)
      rw [hAb] at hok HT0 ⊢
      have hcell := hok.cellz k (by omega)
      have hfro := hok.frozenz k
      obtain ⟨v, hv⟩ : ∃ v, lk.getD k 0 = v := ⟨_, rfl⟩
      rw [hv] at hcell
      have hxor : bits .xor .u8 ((v.toNat : Nat) : Int) 1 = (((v ^^^ 1).toNat : Nat) : Int) := xor8 v 1
      have HT := HT0 (v ^^^ 1)
      have t0 : (0 : Int) ≤ (k : Int) := by omega
      have t1 : (k : Int) < (m : Int) := by omega
      clear hok hv hlk HT0 HS9
      go_wp2
      go_roundw
      case rel => exact ⟨k + 1, by omega, by go_num, HT⟩
      case measure => simp [intOf]; omega
    · have hd1 : decide ((k : Int) < (m : Int)) = false := decide_eq_false (by omega)
      have hd2 : decide (k < m) = false := decide_eq_false hlt
      go_wp2
      go_ret2
      obtain ⟨F', h1, h2, h3, _, _⟩ := HS9.out
      exact ⟨rfl, F', h1, h2, h3⟩

set_option maxRecDepth 100000 in
set_option maxHeartbeats 4000000 in
theorem part1_yes (w : World) (g : Nat) (l : List UInt8) (bad : Bool) (F : List Nat) (p : PartV) (m : Nat) (hp : PartOk w w.heap.size p) (h : OutF w g l bad F) (hm : (p.text.take 200).length = m) (hs : l.length + 300 ≤ 140737488355328) (hk : p.k = 1) (q : Nat) (hy : p.num = (q : Int)) (hq : q < 256) :
    Calls Try.prog 17 #[p.agg, .pointer (some ⟨g, 0, none⟩)] w (PpP w g (l ++ [UInt8.ofNat q]) bad F [UInt8.ofNat q] true) := by
  have B0 := (Below.refl w.heap.size w).alloc (Nat.le_refl _) (.cells #[.int .i64 p.kind, .int .i64 p.num, .slice p.at_ p.text.length p.cap] 36)
  have ct := text_any (w.alloc (.cells #[.int .i64 p.kind, .int .i64 p.num, .slice p.at_ p.text.length p.cap] 36)) p m (by
    obtain ⟨k0, k1, n0, n1, hr, hlc, hcm⟩ := hp.below B0
    exact ⟨k0, k1, n0, n1, hr.more B0.size, hlc, hcm⟩) hm
  have ck : ∀ W, Calls Try.prog 18 #[p.agg] W fun e w' => e = .returned (.int .i64 1) ∧ Below W.heap.size W w' := fun W => by
    have h := kind_any W p
    rw [hk] at h
    exact h
  have hn0 := hp.n0
  have hn1 := hp.n1
  have HBX := hidg_ (Bk.new w 36 #[.int .i64 p.kind, .int .i64 p.num, .slice p.at_ p.text.length p.cap])
  have HOT := hidg_ (OutF.trim h)
  have m200 : m ≤ 200 := by rw [← hm, List.length_take]; omega
  clear hp h hk
  unfold PartV.agg at *
  generalize p.kind = z at *
  generalize p.num = y at *
  generalize p.text.take 200 = t at *
  generalize p.text.length = n at *
  generalize p.at_ = A0 at *
  generalize p.cap = c0 at *
  have HM := hidg_ hm
  have HS := hidg_ hs
  clear hm hs
  obtain ⟨w1, hw1⟩ : ∃ w1, w.alloc (.cells #[.int .i64 z, .int .i64 y, .slice A0 n c0] 36) = w1 := ⟨_, rfl⟩
  have H1S := hidg_ (show w1.heap.size = w.heap.size + 1 by rw [← hw1]; simp)
  rw [hw1] at ct B0 HBX
  have HB0 := hidg_ B0
  clear B0
  subst hy
  have hd9 : decide (0 ≤ (q : Int)) = true := decide_eq_true (by omega)
  have hd8 : decide ((q : Int) < 256) = true := decide_eq_true (by omega)
  have hd7 : decide (q < 256) = true := decide_eq_true hq
  have hSS0 : smallL (q : Int) = [UInt8.ofNat q] := if_pos (by omega)
  obtain ⟨s, hsq⟩ : ∃ s, [UInt8.ofNat q] = s := ⟨_, rfl⟩
  have hSS : smallL (q : Int) = s := hSS0.trans hsq
  have CN := fun (W : World) (h : OutF W g l bad (trim w F)) => small_any W g l bad (trim w F) q h hq (by have := HS.out; omega)
  rw [hsq] at CN ⊢
  go_enter Try.func17, Try.ntmps17
  go_upto_region 1 with fail
  clear hw1
  obtain ⟨e10, e11, e12⟩ := HBX.out.three
  go_upto_region 11 with (first
    | (go_at_call 20; ((with_reducible refine ct.mono ?_); rintro e w2 ⟨A, c, rfl, ho, hb⟩; have O2 := hidg_ ho; have X2 := hidg_ hb; have B2 := hidg_ (HBX.out.below hb HBX.out.lt); clear ho hb; obtain ⟨e20, e21, e22⟩ := B2.out.three; have ck2 := ck w2))
    | (go_at_call 18; ((with_reducible refine ck2.mono ?_); rintro e w3 ⟨rfl, hb⟩; have O3 := hidg_ (O2.out.below hb (Nat.le_refl _)); have X3 := hidg_ (HB0.out.trans ((X2.out.trans (hb.mono X2.out.size)).mono HB0.out.size)); have B3 := hidg_ (B2.out.below hb B2.out.lt); clear hb; obtain ⟨e30, e31, e32⟩ := B3.out.three; have h3 := hidg_ (HOT.out.apart (G := []) (.of_below X3.out) fun _ _ => by simp); rw [H1S.out] at O3))
    | (go_at_call 14; have cp := CN w3 h3.out; ((with_reducible refine cp.mono ?_); clear cp; rintro e w4 ⟨rfl, F4, hO, hG, hU⟩; have O4 := hidg_ hO; have G4 := hidg_ hG; have U4 := hidg_ hU; clear hO hG hU)))
  have B4 := hidg_ (B3.out.untouched U4.out (fun hk => absurd (mem_trim.1 hk).2 (Nat.lt_irrefl _)))
  have W6 : Hid (∀ W : World, Below w4.heap.size w4 W → W.cell? ⟨w.heap.size, 1, none⟩ = some (.int .i64 (q : Int))) := hidg_ (fun W h => ((B4.out.below h B4.out.lt).three).2.1)
  have P1 : Hid (∀ W : World, Below w4.heap.size w4 W → Calls Try.prog 55 #[.int .i64 (q : Int)] W fun e w' => e = .returned (.string (strOf s)) ∧ Below w4.heap.size w4 w') := hidg_ (fun W h => (refSmall_any W (q : Int) hn1).mono fun e w' hh => ⟨by rw [hh.1, hSS], h.trans (hh.2.mono h.size)⟩)
  refine region_quiet_in (C := fun W => Below w4.heap.size w4 W) (by kernel_rfl) (by kernel_rfl) ((Below.refl _ _).drew) ?_
  repeat (first | go_big_quiet_skip | (go_big_quiet_want; (first
    | (refine BigFrame.quiet_move _ rfl ?_; go_simp)
    | (refine BigFrame.quiet_assign _ rfl ?_; go_simp)
    | (refine quiet_run (.pointer (some ⟨w.heap.size, 1, none⟩)) ?_ ?_; (focus (intro W hW; go_simp; done)); go_simp)
    | (refine quiet_run (.int .i64 (q : Int)) ?_ ?_; (focus (intro W hW; have h := W6.out W hW; go_simp; done)); go_simp)
    | (refine quiet_call (.string (strOf s)) 55 #[.int .i64 (q : Int)] ?_ P1.out ?_; (focus (intro W; go_simp; done)); go_simp)
    | (refine quiet_run (.bool true) ?_ ?_; (focus (intro W hW; go_simp; done)); go_simp)
    | (refine quiet_run (.bool (! true)) ?_ ?_; (focus (intro W hW; go_simp; done)); go_simp)); go_big_quiet_on))
  refine wpQuiet_nil ?_
  intro w5 hw5
  have X5 : Hid (Below w4.heap.size w4 w5) := hidg_ hw5
  clear hw5 W6 P1
  have HP5 : Hid (PpS w g (l ++ s) bad F A m c w5) := hidg_ (PpS.of O4.out G4.out U4.out X3.out O3.out HM.out X5.out)
  clear e10 e11 e12 e20 e21 e22 e30 e31 e32
  go_wp2
  go_loopw [9] (fun i wr => ∃ k : Nat, k ≤ m ∧ i = .int .i64 k ∧ Hid (PpS w g (l ++ s) bad F A m c wr)) (fun i _ => m - (intOf i).toNat)
  case atStart => exact ⟨0, Nat.zero_le _, rfl, HP5⟩
  case round =>
    obtain ⟨k, hk, rfl, HS9⟩ := hrel
    clear HP5
    by_cases hlt : k < m
    · have hd1 : decide ((k : Int) < (m : Int)) = true := decide_eq_true (by omega)
      have hd2 : decide (k < m) = true := decide_eq_true hlt
      obtain ⟨_, _, _, _, ⟨lk, hlk, hok⟩, _⟩ := HS9.out
      obtain ⟨b, hAb⟩ := hok.block_ (by omega)
      have HT0 := fun v : UInt8 => hidg_ (HS9.out.turn hAb (k := k) v)
      rw [hAb] at hok HT0 ⊢
      have hcell := hok.cellz k (by omega)
      have hfro := hok.frozenz k
      obtain ⟨v, hv⟩ : ∃ v, lk.getD k 0 = v := ⟨_, rfl⟩
      rw [hv] at hcell
      have hxor : bits .xor .u8 ((v.toNat : Nat) : Int) 1 = (((v ^^^ 1).toNat : Nat) : Int) := xor8 v 1
      have HT := HT0 (v ^^^ 1)
      have t0 : (0 : Int) ≤ (k : Int) := by omega
      have t1 : (k : Int) < (m : Int) := by omega
      clear hok hv hlk HT0 HS9
      go_wp2
      go_roundw
      case rel => exact ⟨k + 1, by omega, by go_num, HT⟩
      case measure => simp [intOf]; omega
    · have hd1 : decide ((k : Int) < (m : Int)) = false := decide_eq_false (by omega)
      have hd2 : decide (k < m) = false := decide_eq_false hlt
      go_wp2
      go_ret2
      obtain ⟨F', h1, h2, h3, _, _⟩ := HS9.out
      exact ⟨rfl, F', h1, h2, h3⟩

set_option maxRecDepth 100000 in
set_option maxHeartbeats 4000000 in
theorem part2 (w : World) (g : Nat) (l : List UInt8) (bad : Bool) (F : List Nat) (p : PartV) (m : Nat) (hp : PartOk w w.heap.size p) (h : OutF w g l bad F) (hm : (p.text.take 200).length = m) (hs : l.length + 300 ≤ 140737488355328) (hk : p.k = 2)  :
    Calls Try.prog 17 #[p.agg, .pointer (some ⟨g, 0, none⟩)] w (PpP w g (l ++ p.text.take 200) bad F (p.text.take 200) true) := by
  have B0 := (Below.refl w.heap.size w).alloc (Nat.le_refl _) (.cells #[.int .i64 p.kind, .int .i64 p.num, .slice p.at_ p.text.length p.cap] 36)
  have ct := text_any (w.alloc (.cells #[.int .i64 p.kind, .int .i64 p.num, .slice p.at_ p.text.length p.cap] 36)) p m (by
    obtain ⟨k0, k1, n0, n1, hr, hlc, hcm⟩ := hp.below B0
    exact ⟨k0, k1, n0, n1, hr.more B0.size, hlc, hcm⟩) hm
  have ck : ∀ W, Calls Try.prog 18 #[p.agg] W fun e w' => e = .returned (.int .i64 2) ∧ Below W.heap.size W w' := fun W => by
    have h := kind_any W p
    rw [hk] at h
    exact h
  have hn0 := hp.n0
  have hn1 := hp.n1
  have HBX := hidg_ (Bk.new w 36 #[.int .i64 p.kind, .int .i64 p.num, .slice p.at_ p.text.length p.cap])
  have HOT := hidg_ (OutF.trim h)
  have m200 : m ≤ 200 := by rw [← hm, List.length_take]; omega
  clear hp h hk
  unfold PartV.agg at *
  generalize p.kind = z at *
  generalize p.num = y at *
  generalize p.text.take 200 = t at *
  generalize p.text.length = n at *
  generalize p.at_ = A0 at *
  generalize p.cap = c0 at *
  have HM := hidg_ hm
  have HS := hidg_ hs
  clear hm hs
  obtain ⟨w1, hw1⟩ : ∃ w1, w.alloc (.cells #[.int .i64 z, .int .i64 y, .slice A0 n c0] 36) = w1 := ⟨_, rfl⟩
  have H1S := hidg_ (show w1.heap.size = w.heap.size + 1 by rw [← hw1]; simp)
  rw [hw1] at ct B0 HBX
  have HB0 := hidg_ B0
  clear B0

  go_enter Try.func17, Try.ntmps17
  go_upto_region 1 with fail
  clear hw1
  obtain ⟨e10, e11, e12⟩ := HBX.out.three
  go_upto_region 15 with (first
    | (go_at_call 20; ((with_reducible refine ct.mono ?_); rintro e w2 ⟨A, c, rfl, ho, hb⟩; have O2 := hidg_ ho; have X2 := hidg_ hb; have B2 := hidg_ (HBX.out.below hb HBX.out.lt); clear ho hb; obtain ⟨e20, e21, e22⟩ := B2.out.three; have ck2 := ck w2))
    | (go_at_call 18; ((with_reducible refine ck2.mono ?_); rintro e w3 ⟨rfl, hb⟩; have O3 := hidg_ (O2.out.below hb (Nat.le_refl _)); have X3 := hidg_ (HB0.out.trans ((X2.out.trans (hb.mono X2.out.size)).mono HB0.out.size)); have B3 := hidg_ (B2.out.below hb B2.out.lt); clear hb; obtain ⟨e30, e31, e32⟩ := B3.out.three; have h3 := hidg_ (HOT.out.apart (G := []) (.of_below X3.out) fun _ _ => by simp); rw [H1S.out] at O3); have cv := conv_strn O3.out.rd.1 m c HM.out)
    | (go_at_call 15; have cp := fixed_any w3 g l bad (trim w F) A m c t h3.out (O3.out.rdf fun k hk => Nat.lt_succ_of_lt (mem_trim.1 hk).2) HM.out (by have := HS.out; omega); ((with_reducible refine cp.mono ?_); clear cp; rintro e w4 ⟨rfl, F4, hO, hG, hU⟩; have O4 := hidg_ hO; have G4 := hidg_ hG; have U4 := hidg_ hU; clear hO hG hU)))
  have HP5 : Hid (PpS w g (l ++ t) bad F A m c w4) := hidg_ (PpS.of O4.out G4.out U4.out X3.out O3.out HM.out (Below.refl _ _))
  clear e10 e11 e12 e20 e21 e22 e30 e31 e32
  go_wp2
  go_loopw [9] (fun i wr => ∃ k : Nat, k ≤ m ∧ i = .int .i64 k ∧ Hid (PpS w g (l ++ t) bad F A m c wr)) (fun i _ => m - (intOf i).toNat)
  case atStart => exact ⟨0, Nat.zero_le _, rfl, HP5⟩
  case round =>
    obtain ⟨k, hk, rfl, HS9⟩ := hrel
    clear HP5
    by_cases hlt : k < m
    · have hd1 : decide ((k : Int) < (m : Int)) = true := decide_eq_true (by omega)
      have hd2 : decide (k < m) = true := decide_eq_true hlt
      obtain ⟨_, _, _, _, ⟨lk, hlk, hok⟩, _⟩ := HS9.out
      obtain ⟨b, hAb⟩ := hok.block_ (by omega)
      have HT0 := fun v : UInt8 => hidg_ (HS9.out.turn hAb (k := k) v)
      rw [hAb] at hok HT0 ⊢
      have hcell := hok.cellz k (by omega)
      have hfro := hok.frozenz k
      obtain ⟨v, hv⟩ : ∃ v, lk.getD k 0 = v := ⟨_, rfl⟩
      rw [hv] at hcell
      have hxor : bits .xor .u8 ((v.toNat : Nat) : Int) 1 = (((v ^^^ 1).toNat : Nat) : Int) := xor8 v 1
      have HT := HT0 (v ^^^ 1)
      have t0 : (0 : Int) ≤ (k : Int) := by omega
      have t1 : (k : Int) < (m : Int) := by omega
      clear hok hv hlk HT0 HS9
      go_wp2
      go_roundw
      case rel => exact ⟨k + 1, by omega, by go_num, HT⟩
      case measure => simp [intOf]; omega
    · have hd1 : decide ((k : Int) < (m : Int)) = false := decide_eq_false (by omega)
      have hd2 : decide (k < m) = false := decide_eq_false hlt
      go_wp2
      go_ret2
      obtain ⟨F', h1, h2, h3, _, _⟩ := HS9.out
      exact ⟨rfl, F', h1, h2, h3⟩

set_option maxRecDepth 100000 in
set_option maxHeartbeats 4000000 in
theorem part3 (w : World) (g : Nat) (l : List UInt8) (bad : Bool) (F : List Nat) (p : PartV) (m : Nat) (hp : PartOk w w.heap.size p) (h : OutF w g l bad F) (hm : (p.text.take 200).length = m) (hs : l.length + 300 ≤ 140737488355328) (hk : p.k = 3)  :
    Calls Try.prog 17 #[p.agg, .pointer (some ⟨g, 0, none⟩)] w (PpP w g (l ++ (highB 4 m ++ p.text.take 200)) bad F (highB 4 m ++ p.text.take 200) true) := by
  have B0 := (Below.refl w.heap.size w).alloc (Nat.le_refl _) (.cells #[.int .i64 p.kind, .int .i64 p.num, .slice p.at_ p.text.length p.cap] 36)
  have ct := text_any (w.alloc (.cells #[.int .i64 p.kind, .int .i64 p.num, .slice p.at_ p.text.length p.cap] 36)) p m (by
    obtain ⟨k0, k1, n0, n1, hr, hlc, hcm⟩ := hp.below B0
    exact ⟨k0, k1, n0, n1, hr.more B0.size, hlc, hcm⟩) hm
  have ck : ∀ W, Calls Try.prog 18 #[p.agg] W fun e w' => e = .returned (.int .i64 3) ∧ Below W.heap.size W w' := fun W => by
    have h := kind_any W p
    rw [hk] at h
    exact h
  have hn0 := hp.n0
  have hn1 := hp.n1
  have HBX := hidg_ (Bk.new w 36 #[.int .i64 p.kind, .int .i64 p.num, .slice p.at_ p.text.length p.cap])
  have HOT := hidg_ (OutF.trim h)
  have m200 : m ≤ 200 := by rw [← hm, List.length_take]; omega
  clear hp h hk
  unfold PartV.agg at *
  generalize p.kind = z at *
  generalize p.num = y at *
  generalize p.text.take 200 = t at *
  generalize p.text.length = n at *
  generalize p.at_ = A0 at *
  generalize p.cap = c0 at *
  have HM := hidg_ hm
  have HS := hidg_ hs
  clear hm hs
  obtain ⟨w1, hw1⟩ : ∃ w1, w.alloc (.cells #[.int .i64 z, .int .i64 y, .slice A0 n c0] 36) = w1 := ⟨_, rfl⟩
  have H1S := hidg_ (show w1.heap.size = w.heap.size + 1 by rw [← hw1]; simp)
  rw [hw1] at ct B0 HBX
  have HB0 := hidg_ B0
  clear B0
  obtain ⟨s, hsq⟩ : ∃ s, highB 4 m ++ t = s := ⟨_, rfl⟩
  have cr := fun W => refBytes_any W t m HM.out (by omega)
  have CN := fun (W : World) (A : Option Addr) (c : Nat) (h : OutF W g l bad (trim w F)) (hr : RdF W (trim w F) A t) => bytes_any W g l bad (trim w F) A m c t h hr HM.out (by have := HS.out; omega)
  rw [List.append_assoc, hsq] at CN
  rw [hsq] at cr ⊢
  go_enter Try.func17, Try.ntmps17
  go_upto_region 1 with fail
  clear hw1
  obtain ⟨e10, e11, e12⟩ := HBX.out.three
  go_upto_region 15 with (first
    | (go_at_call 20; ((with_reducible refine ct.mono ?_); rintro e w2 ⟨A, c, rfl, ho, hb⟩; have O2 := hidg_ ho; have X2 := hidg_ hb; have B2 := hidg_ (HBX.out.below hb HBX.out.lt); clear ho hb; obtain ⟨e20, e21, e22⟩ := B2.out.three; have ck2 := ck w2))
    | (go_at_call 18; ((with_reducible refine ck2.mono ?_); rintro e w3 ⟨rfl, hb⟩; have O3 := hidg_ (O2.out.below hb (Nat.le_refl _)); have X3 := hidg_ (HB0.out.trans ((X2.out.trans (hb.mono X2.out.size)).mono HB0.out.size)); have B3 := hidg_ (B2.out.below hb B2.out.lt); clear hb; obtain ⟨e30, e31, e32⟩ := B3.out.three; have h3 := hidg_ (HOT.out.apart (G := []) (.of_below X3.out) fun _ _ => by simp); rw [H1S.out] at O3); have cv := conv_strn O3.out.rd.1 m c HM.out)
    | (go_at_call 56; ((with_reducible refine (cr _).mono ?_); rintro e w3b ⟨rfl, hb⟩; have O3b := hidg_ (O3.out.below hb (Nat.le_refl _)); have X3b := hidg_ (X3.out.trans (hb.mono X3.out.size)); have h3b := hidg_ (h3.out.below hb); clear hb))
    | (go_at_call 16; have cp := CN w3b A c h3b.out (O3b.out.rdf fun k hk => Nat.lt_succ_of_lt (mem_trim.1 hk).2); ((with_reducible refine cp.mono ?_); clear cp; rintro e w4 ⟨rfl, F4, hO, hG, hU⟩; have O4 := hidg_ hO; have G4 := hidg_ hG; have U4 := hidg_ hU; clear hO hG hU)))
  have HP5 : Hid (PpS w g (l ++ s) bad F A m c w4) := hidg_ (PpS.of O4.out G4.out U4.out X3b.out O3b.out HM.out (Below.refl _ _))
  clear e10 e11 e12 e20 e21 e22 e30 e31 e32
  go_wp2
  go_loopw [9] (fun i wr => ∃ k : Nat, k ≤ m ∧ i = .int .i64 k ∧ Hid (PpS w g (l ++ s) bad F A m c wr)) (fun i _ => m - (intOf i).toNat)
  case atStart => exact ⟨0, Nat.zero_le _, rfl, HP5⟩
  case round =>
    obtain ⟨k, hk, rfl, HS9⟩ := hrel
    clear HP5
    by_cases hlt : k < m
    · have hd1 : decide ((k : Int) < (m : Int)) = true := decide_eq_true (by omega)
      have hd2 : decide (k < m) = true := decide_eq_true hlt
      obtain ⟨_, _, _, _, ⟨lk, hlk, hok⟩, _⟩ := HS9.out
      obtain ⟨b, hAb⟩ := hok.block_ (by omega)
      have HT0 := fun v : UInt8 => hidg_ (HS9.out.turn hAb (k := k) v)
      rw [hAb] at hok HT0 ⊢
      have hcell := hok.cellz k (by omega)
      have hfro := hok.frozenz k
      obtain ⟨v, hv⟩ : ∃ v, lk.getD k 0 = v := ⟨_, rfl⟩
      rw [hv] at hcell
      have hxor : bits .xor .u8 ((v.toNat : Nat) : Int) 1 = (((v ^^^ 1).toNat : Nat) : Int) := xor8 v 1
      have HT := HT0 (v ^^^ 1)
      have t0 : (0 : Int) ≤ (k : Int) := by omega
      have t1 : (k : Int) < (m : Int) := by omega
      clear hok hv hlk HT0 HS9
      go_wp2
      go_roundw
      case rel => exact ⟨k + 1, by omega, by go_num, HT⟩
      case measure => simp [intOf]; omega
    · have hd1 : decide ((k : Int) < (m : Int)) = false := decide_eq_false (by omega)
      have hd2 : decide (k < m) = false := decide_eq_false hlt
      go_wp2
      go_ret2
      obtain ⟨F', h1, h2, h3, _, _⟩ := HS9.out
      exact ⟨rfl, F', h1, h2, h3⟩

theorem ppart_any (w : World) (g : Nat) (l : List UInt8) (bad : Bool) (F : List Nat) (p : PartV) (hp : PartOk w w.heap.size p) (h : OutF w g l bad F) (hs : l.length + 300 ≤ 140737488355328) :
    Calls Try.prog 17 #[p.agg, .pointer (some ⟨g, 0, none⟩)] w (PpP w g (l ++ (partS p).1) (bad || !(partS p).2) F (partS p).1 (partS p).2) := by
  have hk := p.k_lt
  have h4 : p.k = 0 ∨ p.k = 1 ∨ p.k = 2 ∨ p.k = 3 := by omega
  have hn1 := hp.n1
  unfold partS
  rcases h4 with e | e | e | e
  · rw [if_pos e]
    by_cases hy : p.num < 0
    · rw [show numL p.num = [] from if_pos hy, decide_eq_false (show ¬ 0 ≤ p.num by omega), List.append_nil, show (bad || !false) = true by simp]
      exact part0_neg w g l bad F p _ hp h rfl hs e hy
    · obtain ⟨q, hq⟩ : ∃ q : Nat, p.num = (q : Int) := ⟨p.num.toNat, by omega⟩
      have e1 : numL p.num = highB 8 q := by rw [hq]; exact if_neg (by omega)
      rw [e1, decide_eq_true (show 0 ≤ p.num by omega), show (bad || !true) = bad by simp]
      exact part0_pos w g l bad F p _ hp h rfl hs e q hq
  · rw [if_neg (by omega), if_pos e]
    by_cases hy : p.num < 0
    · rw [show smallL p.num = [] from if_neg (by omega), decide_eq_false (show ¬ (0 ≤ p.num ∧ p.num < 256) by omega), List.append_nil, show (bad || !false) = true by simp]
      exact part1_neg w g l bad F p _ hp h rfl hs e hy
    · obtain ⟨q, hq⟩ : ∃ q : Nat, p.num = (q : Int) := ⟨p.num.toNat, by omega⟩
      by_cases h6 : q < 256
      · have e1 : smallL p.num = [UInt8.ofNat q] := by rw [hq]; exact if_pos (by omega)
        rw [e1, decide_eq_true (show 0 ≤ p.num ∧ p.num < 256 by omega), show (bad || !true) = bad by simp]
        exact part1_yes w g l bad F p _ hp h rfl hs e q hq h6
      · rw [show smallL p.num = [] from if_neg (by omega), decide_eq_false (show ¬ (0 ≤ p.num ∧ p.num < 256) by omega), List.append_nil, show (bad || !false) = true by simp]
        exact part1_big w g l bad F p _ hp h rfl hs e q hq h6
  · rw [if_neg (by omega), if_neg (by omega), if_pos e]
    show Calls _ _ _ _ (PpP w g (l ++ p.text.take 200) (bad || !true) F (p.text.take 200) true)
    rw [show (bad || !true) = bad by simp]
    exact part2 w g l bad F p _ hp h rfl hs e
  · rw [if_neg (by omega), if_neg (by omega), if_neg (by omega)]
    show Calls _ _ _ _ (PpP w g (l ++ (highB 4 (p.text.take 200).length ++ p.text.take 200)) (bad || !true) F (highB 4 (p.text.take 200).length ++ p.text.take 200) true)
    rw [show (bad || !true) = bad by simp]
    exact part3 w g l bad F p _ hp h rfl hs e
end Go.Proofs.Ytjfidfcfhdkciaa
