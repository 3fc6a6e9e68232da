/-
  codec.Out: Num, Small, Fixed, Bytes, Done.
-/
import Derived.Test.YteijlgifcmlkoabDoorG4
namespace Go.Proofs.YteijlgifcmlkoabDoor
open Go.RowKit
set_option linter.unusedVariables false
set_option linter.unusedSimpArgs false

section
variable {w w1 w' : World} {g : Nat} {l : List UInt8} {bad : Bool} {F G : List Nat} {e : Ending}
/-- Only the blocks that are there. -/
def trim (w : World) (F : List Nat) : List Nat := F.filter (fun k => decide (k < w.heap.size))
theorem mem_trim {k : Nat} : k ∈ trim w F ↔ k ∈ F ∧ k < w.heap.size := by simp [trim]
theorem OutF.trim (h : OutF w g l bad F) : OutF w g l bad (Go.Proofs.YteijlgifcmlkoabDoor.trim w F) := by
  obtain ⟨hg, all, hb, hor⟩ := h
  refine ⟨mem_trim.2 ⟨hg, hb.lt⟩, all, hb, ?_⟩
  rcases hor with h1 | ⟨h, A, c, e, hF, hne, hbk, ho, hown⟩
  · exact .inl h1
  · obtain ⟨_, _, _, _, hbd⟩ := ho.form
    exact .inr ⟨h, A, c, e, mem_trim.2 ⟨hF, hbk.lt⟩, hne, hbk, ho, fun b hb => ⟨mem_trim.2 ⟨(hown b hb).1, (hbd b hb).2⟩, (hown b hb).2⟩⟩
theorem OutP.untrim (h : OutP w g l bad (Go.Proofs.YteijlgifcmlkoabDoor.trim w F) e w') : OutP w g l bad F e w' := by
  obtain ⟨he, F', hO, hG, hU⟩ := h
  refine ⟨he, F', hO, fun k hk => ?_, hU.os, hU.tape, hU.output, hU.size, fun k hk hn => hU.block k hk fun hm => hn (mem_trim.1 hm).1⟩
  rcases hG k hk with h1 | h1
  · exact .inl (mem_trim.1 h1).1
  · exact .inr h1
theorem Own8.at_ {base : Nat} {v : Value} (h : Own8 w base v l) (hk : ∀ k, v.ownBlock = some k → w1.heap[k]? = w.heap[k]?) : Own8 w1 base v l := by
  refine ⟨h.1, ?_⟩
  rcases h.2 with hn | ⟨g, cap, cur, rfl, hb, hgg, rest⟩
  · exact .inl hn
  · exact .inr ⟨g, cap, cur, rfl, hb, (hk g rfl).trans hgg, rest⟩
/-- An Out stands while other blocks turn. -/
theorem OutF.apart (h : OutF w g l bad F) (hu : Untouched G w w1) (hd : ∀ k ∈ F, k ∉ G) : OutF w1 g l bad F := by
  obtain ⟨hg, all, hb, hor⟩ := h
  refine ⟨hg, all, hb.untouched hu (hd g hg), ?_⟩
  rcases hor with h1 | ⟨h, A, c, e, hF, hne, hbk, ho, hown⟩
  · exact .inl h1
  · refine .inr ⟨h, A, c, e, hF, hne, hbk.untouched hu (hd h hF), ?_, hown⟩
    obtain ⟨_, _, _, _, hbd⟩ := ho.form
    exact ho.at_ fun b hb => hu.block b (hbd b hb).2 (hd b (hown b hb).1)
theorem OutF.below (h : OutF w g l bad F) (hb : Below w.heap.size w w1) : OutF w1 g l bad F := h.apart (G := []) (.of_below hb) fun _ _ => by simp
theorem OutP.from (h : OutP w1 g l bad F e w') (hu : Untouched F w w1) : OutP w g l bad F e w' := by
  obtain ⟨he, F', hO, hG, hU⟩ := h
  exact ⟨he, F', hO, (Grew.refl w F).trans hu.size hG, hu.trans (Grew.refl _ _) hU⟩
end
/-- put, of a slice whose memory was not there. -/
theorem put_new (w w1 : World) (g : Nat) (l : List UInt8) (bad : Bool) (F : List Nat) (A : Option Addr) (n c : Nat) (m : List UInt8) (h : OutF w g l bad F) (hb : Below w.heap.size w w1) (hr : Rd w1 w1.heap.size A m) (hA : ∀ a, A = some a → w.heap.size ≤ a.block) (hm : m.length = n) (hs : l.length + n ≤ 140737488355328) :
    Calls Tryd.prog 22 #[.pointer (some ⟨g, 0, none⟩), .slice A n c] w1 (OutP w g (l ++ m) bad F) := by
  refine (put_any w1 g l bad (trim w F) A n c m (h.trim.below hb) (fun hn => ?_) hm hs).mono fun e w' hh => OutP.untrim (hh.from (.of_below hb))
  obtain ⟨b, off, e, hlt, hc⟩ := hr hn
  exact ⟨b, off, e, fun hm => by have := (mem_trim.1 hm).2; have := hA _ e; simp only at this; omega, hlt, hc⟩

set_option maxRecDepth 100000 in
set_option maxHeartbeats 1000000 in
theorem fixed_any (w : World) (g : Nat) (l : List UInt8) (bad : Bool) (F : List Nat) (A : Option Addr) (n c : Nat) (m : List UInt8) (h : OutF w g l bad F) (hr : RdF w F A m) (hm : m.length = n) (hs : l.length + n ≤ 140737488355328) :
    Calls Tryd.prog 15 #[.pointer (some ⟨g, 0, none⟩), .slice A n c] w (OutP w g (l ++ m) bad F) := by
  have c1 := put_any w g l bad F A n c m h hr hm hs
  go_enter Tryd.func15, Tryd.ntmps15
  go_wp2_with (go_at_call 22; refine c1.mono ?_; rintro e w' ⟨rfl, hP⟩)
  go_ret
  exact ⟨rfl, hP⟩
set_option maxRecDepth 100000 in
set_option maxHeartbeats 1000000 in
theorem bytes_any (w : World) (g : Nat) (l : List UInt8) (bad : Bool) (F : List Nat) (A : Option Addr) (n c : Nat) (m : List UInt8) (h : OutF w g l bad F) (hr : RdF w F A m) (hm : m.length = n) (hs : l.length + 4 + n ≤ 140737488355328) :
    Calls Tryd.prog 14 #[.pointer (some ⟨g, 0, none⟩), .slice A n c] w (OutP w g (l ++ highB 4 n ++ m) bad F) := by
  have c1 := putHigh_any n 4 4 (by omega) (by omega) (by omega) (.inr (.inl ⟨by omega, by omega, rfl⟩)) w
  have hw : IntKind.u64.wrap (n : Int) = (n : Int) := IntWalk.u64_in _ (by omega)
  have H := hidg_ h
  have HR := hidg_ hr
  have HM := hidg_ hm
  clear h hr hm
  go_enter Tryd.func14, Tryd.ntmps14
  go_wp2_with (first
    | (go_at_call 23; refine c1.mono ?_; rintro e w1 ⟨rfl, hb, hB⟩; have B1 := hidg_ hb; have HB := hidg_ hB; clear hb hB)
    | (go_at_call 22; have cp := put_new w _ g l bad F (some ⟨w.heap.size, 0, none⟩) 4 4 (highB 4 n) H.out HB.out (B1.out.rd B1.out.lt) (fun a e => by injection e with e; rw [← e]; exact Nat.le_refl _) (highB_len 4 n) (by omega); (with_reducible refine cp.mono ?_); clear cp; rintro e w2 ⟨rfl, F2, hO, hG, hU⟩; have HO := hidg_ hO; have HG := hidg_ hG; have HU := hidg_ hU; clear hO hG hU)
    | (go_at_call 22; have cp := put_any _ g (l ++ highB 4 n) bad F2 A n c m HO.out (HR.out.keep HU.out HG.out) HM.out (by rw [List.length_append, highB_len]; exact hs); (with_reducible refine cp.mono ?_); clear cp; rintro e w3 ⟨rfl, F3, hO3, hG3, hU3⟩; have HO3 := hidg_ hO3; have HG3 := hidg_ hG3; have HU3 := hidg_ hU3; clear hO3 hG3 hU3))
  go_ret
  exact ⟨rfl, F3, HO3.out, HG.out.trans HU.out.size HG3.out, HU.out.trans HG.out HU3.out⟩
set_option maxRecDepth 100000 in
set_option maxHeartbeats 1000000 in
theorem done_any (w : World) (g n : Nat) (l : List UInt8) (bad : Bool) (F : List Nat) (h : OutF w g l bad F) (hn : l.length = n) (hm : n ≤ 140737488355328) :
    Calls Tryd.prog 16 #[.pointer (some ⟨g, 0, none⟩)] w fun e w' => ∃ A c, e = .returned (.tuple #[.slice A n c, .int .i64 (if bad then 1 else 0)]) ∧ Own8 w' w.heap.size (.slice A n c) l ∧ Below w.heap.size w w' := by
  have c1 := own_any w g n l bad F h hn hm
  obtain ⟨hg, all, hb, hor⟩ := h
  have hc2 := hb.cell 2
  simp only [List.getElem?_toArray, List.getElem?_cons_zero, List.getElem?_cons_succ] at hc2
  clear hb hor hn
  cases bad
  all_goals
    go_enter Tryd.func16, Tryd.ntmps16
    go_wp2_with (go_at_call 24; refine c1.mono ?_; rintro e w' ⟨A, c, rfl, ho, hb⟩; have HO := hidg_ ho; have HB := hidg_ hb; clear ho hb)
    go_ret2
    exact ⟨A, c, rfl, HO.out, HB.out⟩
end Go.Proofs.YteijlgifcmlkoabDoor
