/-
  codec.Out: Num, Small, Fixed, Bytes, Done.
-/
import Derived.Test.YtnlipmcnpekifaaG4
namespace Go.Proofs.Ytnlipmcnpekifaa
set_option maxRecDepth 100000
open Go.RowKit
set_option linter.unusedVariables false
set_option linter.unusedSimpArgs false

section
variable {w w1 w' : World} {g : Nat} {l : List UInt8} {bad wrong : Bool} {F G : List Nat} {e : Ending}
/-- Only the blocks that are there. -/
def trim (w : World) (F : List Nat) : List Nat := F.filter (fun k => decide (k < w.heap.size))
theorem mem_trim {k : Nat} : k ∈ trim w F ↔ k ∈ F ∧ k < w.heap.size := by simp [trim]
theorem OutF.trim (h : OutF w g l bad wrong F) : OutF w g l bad wrong (Go.Proofs.Ytnlipmcnpekifaa.trim w F) := by
  obtain ⟨hg, all, hb, hor⟩ := h
  refine ⟨mem_trim.2 ⟨hg, hb.lt⟩, all, hb, ?_⟩
  rcases hor with h1 | ⟨h, A, c, e, hF, hne, hbk, ho, hown⟩
  · exact .inl h1
  · obtain ⟨_, _, _, _, hbd⟩ := ho.form
    exact .inr ⟨h, A, c, e, mem_trim.2 ⟨hF, hbk.lt⟩, hne, hbk, ho, fun b hb => ⟨mem_trim.2 ⟨(hown b hb).1, (hbd b hb).2⟩, (hown b hb).2⟩⟩
theorem OutP.untrim (h : OutP w g l bad wrong (Go.Proofs.Ytnlipmcnpekifaa.trim w F) e w') : OutP w g l bad wrong F e w' := by
  obtain ⟨he, F', hO, hG, hU⟩ := h
  refine ⟨he, F', hO, fun k hk => ?_, hU.os, hU.tape, hU.output, hU.size, fun k hk hn => hU.block k hk fun hm => hn (mem_trim.1 hm).1⟩
  rcases hG k hk with h1 | h1
  · exact .inl (mem_trim.1 h1).1
  · exact .inr h1
theorem Own8.at_ {base : Nat} {v : Value} (h : Own8 w base v l) (hk : ∀ k, v.ownBlock = some k → w1.heap[k]? = w.heap[k]?) : Own8 w1 base v l := by
  refine ⟨h.1, ?_⟩
  rcases h.2 with hn | ⟨g, cap, cur, rfl, hb, hgg, rest⟩
  · exact .inl hn
  · exact .inr ⟨g, cap, cur, rfl, hb, (hk g rfl).trans hgg, rest⟩
/-- An Out stands while other blocks turn. -/
theorem OutF.apart (h : OutF w g l bad wrong F) (hu : Untouched G w w1) (hd : ∀ k ∈ F, k ∉ G) : OutF w1 g l bad wrong F := by
  obtain ⟨hg, all, hb, hor⟩ := h
  refine ⟨hg, all, hb.untouched hu (hd g hg), ?_⟩
  rcases hor with h1 | ⟨h, A, c, e, hF, hne, hbk, ho, hown⟩
  · exact .inl h1
  · refine .inr ⟨h, A, c, e, hF, hne, hbk.untouched hu (hd h hF), ?_, hown⟩
    obtain ⟨_, _, _, _, hbd⟩ := ho.form
    exact ho.at_ fun b hb => hu.block b (hbd b hb).2 (hd b (hown b hb).1)
theorem OutF.below (h : OutF w g l bad wrong F) (hb : Below w.heap.size w w1) : OutF w1 g l bad wrong F := h.apart (G := []) (.of_below hb) fun _ _ => by simp
theorem OutP.from (h : OutP w1 g l bad wrong F e w') (hu : Untouched F w w1) : OutP w g l bad wrong F e w' := by
  obtain ⟨he, F', hO, hG, hU⟩ := h
  exact ⟨he, F', hO, (Grew.refl w F).trans hu.size hG, hu.trans (Grew.refl _ _) hU⟩
end
/-- put, of a slice whose memory was not there. -/
theorem put_new (w w1 : World) (g : Nat) (l : List UInt8) (bad wrong : Bool) (F : List Nat) (A : Option Addr) (n c : Nat) (m : List UInt8) (h : OutF w g l bad wrong F) (hb : Below w.heap.size w w1) (hr : Rd w1 w1.heap.size A m) (hA : ∀ a, A = some a → w.heap.size ≤ a.block) (hm : m.length = n) (hs : l.length + n ≤ 140737488355328) :
    Calls Try.prog 65 #[.pointer (some ⟨g, 0, none⟩), .slice A n c] w1 (OutP w g (l ++ m) bad wrong F) := by
  refine (put_any w1 g l bad wrong (trim w F) A n c m (h.trim.below hb) (fun hn => ?_) hm hs).mono fun e w' hh => OutP.untrim (hh.from (.of_below hb))
  obtain ⟨b, off, e, hlt, hc⟩ := hr hn
  exact ⟨b, off, e, fun hm => by have := (mem_trim.1 hm).2; have := hA _ e; simp only at this; omega, hlt, hc⟩

set_option maxRecDepth 100000 in
set_option maxHeartbeats 1000000 in
theorem num_neg (w : World) (g : Nat) (l : List UInt8) (bad wrong : Bool) (F : List Nat) (k : Int) (h : OutF w g l bad wrong F) (hk : k < 0) :
    Calls Try.prog 50 #[.pointer (some ⟨g, 0, none⟩), .int .i64 k] w (OutP w g l true wrong F) := by
  have c1 := refuse_any w g l bad wrong F h
  have hd : decide (k < 0) = true := decide_eq_true hk
  go_enter Try.func50, Try.ntmps50
  go_wp2_with (go_at_call 64; refine c1.mono ?_; rintro e w' ⟨rfl, hP⟩)
  go_ret
  exact ⟨rfl, hP⟩
set_option maxRecDepth 100000 in
set_option maxHeartbeats 1000000 in
theorem num_any (w : World) (g : Nat) (l : List UInt8) (bad wrong : Bool) (F : List Nat) (k : Nat) (h : OutF w g l bad wrong F) (hk : k ≤ 9223372036854775807) (hs : l.length + 8 ≤ 140737488355328) :
    Calls Try.prog 50 #[.pointer (some ⟨g, 0, none⟩), .int .i64 (k : Int)] w (OutP w g (l ++ highB 8 k) bad wrong F) := by
  have c1 := putHigh_any k 8 8 (by omega) (by omega) (by omega) (.inr (.inl ⟨by omega, by omega, rfl⟩)) w
  have hd : decide ((k : Int) < 0) = false := decide_eq_false (by omega)
  have hw : IntKind.u64.wrap (k : Int) = (k : Int) := IntWalk.u64_in _ (by omega)
  have H := hidg_ h
  clear h
  go_enter Try.func50, Try.ntmps50
  go_wp2_with (first
    | (go_at_call 66; refine c1.mono ?_; rintro e w1 ⟨rfl, hb, hB⟩; have B1 := hidg_ hb; have HB := hidg_ hB; clear hb hB)
    | (go_at_call 65; have cp := put_new w _ g l bad wrong F (some ⟨w.heap.size, 0, none⟩) 8 8 (highB 8 k) H.out HB.out (B1.out.rd B1.out.lt) (fun a e => by injection e with e; rw [← e]; exact Nat.le_refl _) (highB_len 8 k) hs; (with_reducible refine cp.mono ?_); clear cp; rintro e w' ⟨rfl, hP⟩))
  go_ret
  exact ⟨rfl, hP⟩

set_option maxRecDepth 100000 in
set_option maxHeartbeats 1000000 in
theorem small_no (w : World) (g : Nat) (l : List UInt8) (bad wrong : Bool) (F : List Nat) (k : Int) (h : OutF w g l bad wrong F) (w0 : -9223372036854775808 ≤ k) (w1 : k ≤ 9223372036854775807) (hk : ¬ (0 ≤ k ∧ k < 256)) :
    Calls Try.prog 49 #[.pointer (some ⟨g, 0, none⟩), .int .i64 k] w (OutP w g l true wrong F) := by
  have c1 := refuse_any w g l bad wrong F h
  have c2 := byte_any k w0 w1 w
  rw [if_neg hk, decide_eq_false hk] at c2
  clear h
  go_enter Try.func49, Try.ntmps49
  go_wp2_with (first
    | (go_at_call 63; refine c2.mono ?_; rintro e w' ⟨rfl, rfl⟩)
    | (go_at_call 64; refine c1.mono ?_; rintro e w' ⟨rfl, hP⟩))
  go_ret
  exact ⟨rfl, hP⟩
set_option maxRecDepth 100000 in
set_option maxHeartbeats 1000000 in
theorem small_any (w : World) (g : Nat) (l : List UInt8) (bad wrong : Bool) (F : List Nat) (k : Nat) (h : OutF w g l bad wrong F) (hk : k < 256) (hs : l.length + 1 ≤ 140737488355328) :
    Calls Try.prog 49 #[.pointer (some ⟨g, 0, none⟩), .int .i64 (k : Int)] w (OutP w g (l ++ [UInt8.ofNat k]) bad wrong F) := by
  have c2 := byte_any (k : Int) (by omega) (by omega) w
  rw [if_pos (by omega), decide_eq_true (by omega)] at c2
  have H := hidg_ h
  have hrow : (#[Value.int .u8 (k : Int)] : Array Value) = rowOf [UInt8.ofNat k] := by
    have : (UInt8.ofNat k).toNat = k := by simp; omega
    simp [rowOf, this]
  have HR := hidg_ hrow
  clear h hrow
  go_enter Try.func49, Try.ntmps49
  go_wp2_with (first
    | (go_at_call 63; refine c2.mono ?_; rintro e w' ⟨rfl, rfl⟩)
    | (go_at_call 65; rw [HR.out]; have cp := put_new w _ g l bad wrong F (some ⟨w.heap.size, 0, none⟩) 1 1 [UInt8.ofNat k] H.out ((Below.refl _ _).alloc (Nat.le_refl _) _) ((Blk8.new w _).rd (Blk8.new w _).lt) (fun a e => by injection e with e; rw [← e]; exact Nat.le_refl _) rfl hs; (with_reducible refine cp.mono ?_); clear cp; rintro e w' ⟨rfl, hP⟩))
  go_ret
  exact ⟨rfl, hP⟩
set_option maxRecDepth 100000 in
set_option maxHeartbeats 1000000 in
theorem fixed_any (w : World) (g : Nat) (l : List UInt8) (bad wrong : Bool) (F : List Nat) (A : Option Addr) (n c : Nat) (m : List UInt8) (h : OutF w g l bad wrong F) (hr : RdF w F A m) (hm : m.length = n) (hs : l.length + n ≤ 140737488355328) :
    Calls Try.prog 51 #[.pointer (some ⟨g, 0, none⟩), .slice A n c] w (OutP w g (l ++ m) bad wrong F) := by
  have c1 := put_any w g l bad wrong F A n c m h hr hm hs
  go_enter Try.func51, Try.ntmps51
  go_wp2_with (go_at_call 65; refine c1.mono ?_; rintro e w' ⟨rfl, hP⟩)
  go_ret
  exact ⟨rfl, hP⟩
set_option maxRecDepth 100000 in
set_option maxHeartbeats 1000000 in
theorem bytes_any (w : World) (g : Nat) (l : List UInt8) (bad wrong : Bool) (F : List Nat) (A : Option Addr) (n c : Nat) (m : List UInt8) (h : OutF w g l bad wrong F) (hr : RdF w F A m) (hm : m.length = n) (hs : l.length + 4 + n ≤ 140737488355328) :
    Calls Try.prog 52 #[.pointer (some ⟨g, 0, none⟩), .slice A n c] w (OutP w g (l ++ highB 4 n ++ m) bad wrong F) := by
  have c1 := putHigh_any n 4 4 (by omega) (by omega) (by omega) (.inr (.inl ⟨by omega, by omega, rfl⟩)) w
  have hw : IntKind.u64.wrap (n : Int) = (n : Int) := IntWalk.u64_in _ (by omega)
  have H := hidg_ h
  have HR := hidg_ hr
  have HM := hidg_ hm
  clear h hr hm
  go_enter Try.func52, Try.ntmps52
  go_wp2_with (first
    | (go_at_call 66; refine c1.mono ?_; rintro e w1 ⟨rfl, hb, hB⟩; have B1 := hidg_ hb; have HB := hidg_ hB; clear hb hB)
    | (go_at_call 65; have cp := put_new w _ g l bad wrong F (some ⟨w.heap.size, 0, none⟩) 4 4 (highB 4 n) H.out HB.out (B1.out.rd B1.out.lt) (fun a e => by injection e with e; rw [← e]; exact Nat.le_refl _) (highB_len 4 n) (by omega); (with_reducible refine cp.mono ?_); clear cp; rintro e w2 ⟨rfl, F2, hO, hG, hU⟩; have HO := hidg_ hO; have HG := hidg_ hG; have HU := hidg_ hU; clear hO hG hU)
    | (go_at_call 65; have cp := put_any _ g (l ++ highB 4 n) bad wrong F2 A n c m HO.out (HR.out.keep HU.out HG.out) HM.out (by rw [List.length_append, highB_len]; exact hs); (with_reducible refine cp.mono ?_); clear cp; rintro e w3 ⟨rfl, F3, hO3, hG3, hU3⟩; have HO3 := hidg_ hO3; have HG3 := hidg_ hG3; have HU3 := hidg_ hU3; clear hO3 hG3 hU3))
  go_ret
  exact ⟨rfl, F3, HO3.out, HG.out.trans HU.out.size HG3.out, HU.out.trans HG.out HU3.out⟩
set_option maxRecDepth 100000 in
set_option maxHeartbeats 1000000 in
theorem done_any (w : World) (g n : Nat) (l : List UInt8) (bad wrong : Bool) (F : List Nat) (h : OutF w g l bad wrong F) (hn : l.length = n) (hm : n ≤ 140737488355328) :
    Calls Try.prog 53 #[.pointer (some ⟨g, 0, none⟩)] w fun e w' => ∃ A c, e = .returned (.tuple #[.slice A n c, .int .i64 (if bad then 1 else 0)]) ∧ Own8 w' w.heap.size (.slice A n c) l ∧ Below w.heap.size w w' := by
  have c1 := own_any w g n l bad wrong F h hn hm
  obtain ⟨hg, all, hb, hor⟩ := h
  have hc2 := hb.cell 2
  simp only [List.getElem?_toArray, List.getElem?_cons_zero, List.getElem?_cons_succ] at hc2
  clear hb hor hn
  cases bad
  all_goals
    go_enter Try.func53, Try.ntmps53
    go_wp2_with (go_at_call 67; refine c1.mono ?_; rintro e w' ⟨A, c, rfl, ho, hb⟩; have HO := hidg_ ho; have HB := hidg_ hb; clear ho hb)
    go_ret2
    exact ⟨A, c, rfl, HO.out, HB.out⟩
end Go.Proofs.Ytnlipmcnpekifaa
