/-
  The reference's net: New; no net.
-/
import Derived.Test.YtdkemjipbkanoaaVq
namespace Go.Proofs.Ytdkemjipbkanoaa
open Go.RowKit
set_option linter.unusedVariables false
set_option linter.unusedSimpArgs false

set_option maxRecDepth 100000 in
set_option maxHeartbeats 1000000 in
theorem none_any (w : World) : Calls Try.prog 6 #[] w fun e w' => e = .returned (.pointer none) ∧ w = w' := by
  go_enter Try.func6, Try.ntmps6
  go_wp2
  go_ret
  exact ⟨rfl, rfl⟩
theorem ref_laid (w : World) (n : Nat) (h9 : n ≤ 9) (q s : Nat) (hq : q = w.heap.size ∧ s = w.heap.size + 1 ∨ s = w.heap.size ∧ q = w.heap.size + 1) :
    RefF (((w.alloc (.cells (nilC n) 46)).alloc (.cells (nilC n) 46)).alloc (.cells #[.slice (some ⟨q, 0, none⟩) n n, .slice (some ⟨s, 0, none⟩) n n] 49)) (w.heap.size + 2) q s n (List.replicate (2 * n) []) [w.heap.size + 2, q, s] := by
  have b1 := ((Bk.new w 46 (nilC n)).alloc (.cells (nilC n) 46)).alloc (.cells #[.slice (some ⟨q, 0, none⟩) n n, .slice (some ⟨s, 0, none⟩) n n] 49)
  have b2 := (Bk.new (w.alloc (.cells (nilC n) 46)) 46 (nilC n)).alloc (.cells #[.slice (some ⟨q, 0, none⟩) n n, .slice (some ⟨s, 0, none⟩) n n] 49)
  have b3 := Bk.new ((w.alloc (.cells (nilC n) 46)).alloc (.cells (nilC n) 46)) 49 #[.slice (some ⟨q, 0, none⟩) n n, .slice (some ⟨s, 0, none⟩) n n]
  have e1 : (w.alloc (.cells (nilC n) 46)).heap.size = w.heap.size + 1 := by simp
  have e2 : ((w.alloc (.cells (nilC n) 46)).alloc (.cells (nilC n) 46)).heap.size = w.heap.size + 2 := by simp
  rw [e1] at b2
  rw [e2] at b3
  rcases hq with ⟨rfl, rfl⟩ | ⟨rfl, rfl⟩
  · exact ref_new h9 (by omega) b3 b1 b2
  · exact ref_new h9 (by omega) b3 b2 b1
set_option maxRecDepth 100000 in
set_option maxHeartbeats 4000000 in
theorem rnew_yes (w : World) (n : Nat) (h9 : n ≤ 9) :
    Calls Try.prog 15 #[.int .i64 (n : Int)] w fun e w' => ∃ rp rq rs G, e = .returned (.pointer (some ⟨rp, 0, none⟩)) ∧ RefF w' rp rq rs n (List.replicate (2 * n) []) G ∧ (∀ k ∈ G, w.heap.size ≤ k) ∧ Below w.heap.size w w' := by
  have hm := fun W => mkSs n h9 W
  go_enter Try.func15, Try.ntmps15
  go_upto_region 1 with fail
  go_region
  · rename_i K hK
    refine hK _ _ ?_
    have HN := hidv_ (ref_laid w n h9 w.heap.size (w.heap.size + 1) (.inl ⟨rfl, rfl⟩))
    have HB := hidv_ ((((Below.refl w.heap.size w).alloc (Nat.le_refl _) (.cells (nilC n) 46)).alloc (by simp) (.cells (nilC n) 46)).alloc (by simp; omega) (.cells #[.slice (some ⟨w.heap.size, 0, none⟩) n n, .slice (some ⟨w.heap.size + 1, 0, none⟩) n n] 49))
    go_wp2
    go_ret
    exact ⟨_, _, _, _, rfl, HN.out.below ((Below.refl _ _).drew), fun k hk => (by simp at hk; omega), HB.out.drew⟩
  · rename_i K hK
    refine hK _ _ ?_
    have HN := hidv_ (ref_laid w n h9 (w.heap.size + 1) w.heap.size (.inr ⟨rfl, rfl⟩))
    have HB := hidv_ ((((Below.refl w.heap.size w).alloc (Nat.le_refl _) (.cells (nilC n) 46)).alloc (by simp) (.cells (nilC n) 46)).alloc (by simp; omega) (.cells #[.slice (some ⟨w.heap.size + 1, 0, none⟩) n n, .slice (some ⟨w.heap.size, 0, none⟩) n n] 49))
    go_wp2
    go_ret
    exact ⟨_, _, _, _, rfl, HN.out.below ((Below.refl _ _).drew), fun k hk => (by simp at hk; omega), HB.out.drew⟩
end Go.Proofs.Ytdkemjipbkanoaa
