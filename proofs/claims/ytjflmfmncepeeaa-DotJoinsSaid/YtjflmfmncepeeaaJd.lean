/-
  casketlaw14.dots.
-/
import Derived.Test.YtjflmfmncepeeaaJc
namespace Go.Proofs.Ytjflmfmncepeeaa
open Go.ChangeShapes Go.WideShapes Go.ChangeAt Go.RowKit
set_option linter.unusedVariables false
set_option linter.unusedSimpArgs false

/-- What a sorted row of dots comes to is the one form. -/
theorem ofX_sorted {up : List Int} {ms srt : List DotV} {st : List Int × List DotV} (h : OfX up ms st) (hu : Up16 up) (hp : srt.Perm ms) (hd : ∀ d ∈ ms, isD d = true) (hs : ∀ i j, i < j → j < ms.length → ltOf cmpD (srt.getD j ⟨0, 0⟩) (srt.getD i ⟨0, 0⟩) = false) :
    st = runX up (ddN srt ms.length) (ddN srt ms.length).length :=
  h.one (ofX_of hu hp hd _ rfl hs) fun d _ => Iff.rfl
theorem up16_zero : Up16 [0, 0, 0, 0, 0, 0, 0, 0, 0, 0, 0, 0, 0, 0, 0, 0] := by
  refine ⟨rfl, fun k => ?_⟩
  rw [show [0, 0, 0, 0, 0, 0, 0, 0, 0, 0, 0, 0, 0, 0, 0, 0] = List.replicate 16 (0 : Int) from rfl, List.getD_eq_getElem?_getD, List.getElem?_replicate]
  split <;> simp
theorem addV_first {u : List Int} {m : List DotV} {z : Int} (h : AddV [0, 0, 0, 0, 0, 0, 0, 0, 0, 0, 0, 0, 0, 0, 0, 0] [] ⟨1, 2⟩ u m z) : u = [0, 0, 0, 0, 0, 0, 0, 0, 0, 0, 0, 0, 0, 0, 0, 0] ∧ m = [⟨1, 2⟩] ∧ z = 0 := by
  rcases h with ⟨h, _⟩ | ⟨_, st, ho, h⟩
  · rcases h with h | h
    · exact absurd (by decide) h
    · exact absurd h (by decide)
  · have e := ofX_sorted (srt := [⟨1, 2⟩]) ho up16_zero (List.Perm.refl _) (by decide) (fun i j h1 h2 => by simp at h2; omega)
    have e2 : st = ([0, 0, 0, 0, 0, 0, 0, 0, 0, 0, 0, 0, 0, 0, 0, 0], [⟨1, 2⟩]) := e.trans (by decide)
    subst e2
    rcases h with ⟨h, _⟩ | ⟨_, h1, h2, h3⟩
    · exact absurd h (by decide)
    · exact ⟨h1, h2, h3⟩
theorem addV_second {u : List Int} {m : List DotV} {z : Int} (h : AddV [0, 0, 0, 0, 0, 0, 0, 0, 0, 0, 0, 0, 0, 0, 0, 0] [⟨1, 2⟩] ⟨1, 1⟩ u m z) : u = [2, 0, 0, 0, 0, 0, 0, 0, 0, 0, 0, 0, 0, 0, 0, 0] ∧ m = [] ∧ z = 0 := by
  rcases h with ⟨h, _⟩ | ⟨_, st, ho, h⟩
  · rcases h with h | h
    · exact absurd (by decide) h
    · exact absurd h (by decide)
  · have e := ofX_sorted (srt := [⟨1, 1⟩, ⟨1, 2⟩]) ho up16_zero (List.Perm.swap _ _ _) (by decide) (fun i j h1 h2 => by simp at h2; rw [show i = 0 by omega, show j = 1 by omega]; decide)
    have e2 : st = ([2, 0, 0, 0, 0, 0, 0, 0, 0, 0, 0, 0, 0, 0, 0, 0], []) := e.trans (by decide)
    subst e2
    rcases h with ⟨h, _⟩ | ⟨_, h1, h2, h3⟩
    · exact absurd h (by decide)
    · exact ⟨h1, h2, h3⟩
theorem has_dots : hasR [2, 0, 0, 0, 0, 0, 0, 0, 0, 0, 0, 0, 0, 0, 0, 0] [] ⟨1, 2⟩ = true := by decide

set_option maxRecDepth 100000 in
set_option maxHeartbeats 8000000 in
theorem dots_any (w : World) : Calls Try.prog 15 #[] w fun e w' => e = .returned (.bool true) ∧ Below w.heap.size w w' := by
  have hz := zX_
  have IZ := hidd_ (fun A n c => (show (Try.prog.info? 29).map (·.size) = some (ctxRow [0, 0, 0, 0, 0, 0, 0, 0, 0, 0, 0, 0, 0, 0, 0, 0] A n c).size by rw [ctxRow_size _ _ _ _ (by simp)]; exact iX_))
  have IV := hidd_ (fun A n c => (show (Try.prog.info? 29).map (·.size) = some (ctxRow [2, 0, 0, 0, 0, 0, 0, 0, 0, 0, 0, 0, 0, 0, 0, 0] A n c).size by rw [ctxRow_size _ _ _ _ rfl]; exact iX_))
  have c1 : Calls Try.prog 26 #[.agg (ctxRow [0, 0, 0, 0, 0, 0, 0, 0, 0, 0, 0, 0, 0, 0, 0, 0] none 0 0), .agg #[.int .i64 1, .int .i64 2]] w (TwoP (AddV [0, 0, 0, 0, 0, 0, 0, 0, 0, 0, 0, 0, 0, 0, 0, 0] [] ⟨1, 2⟩) w) := add_any w _ (by simp) none 0 0 [] rfl (by omega) (Nat.le_refl _) RdD.nil ⟨1, 2⟩
  go_enter Try.func15, Try.ntmps15
  go_upto_region 2 with (first
    | (refine wpList_built rfl 29 _ rfl (ctxRow [0, 0, 0, 0, 0, 0, 0, 0, 0, 0, 0, 0, 0, 0, 0, 0] none 0 0) (by kernel_rfl) ?_)
    | (go_at_call 26; go_loud ((with_reducible refine c1.mono ?_); clear c1; rintro e w1 ⟨u, m, A, c, z, rfl, h1, _, h2, h3, h4, h5, h6⟩; obtain ⟨rfl, rfl, rfl⟩ := addV_first h5; rw [show TwoX [0, 0, 0, 0, 0, 0, 0, 0, 0, 0, 0, 0, 0, 0, 0, 0] A [⟨1, 2⟩] c 0 = .tuple #[.agg (ctxRow [0, 0, 0, 0, 0, 0, 0, 0, 0, 0, 0, 0, 0, 0, 0, 0] A 1 c), .int .i64 0] from rfl]; have R1 := hidd_ h1; have X1 := hidd_ h6; have C1 := hidd_ (show 1 ≤ c ∧ c ≤ 9223372036854775807 from ⟨h2, h3⟩); clear h1 h2 h3 h4 h5 h6))
    | (refine wpList_put_row rfl 29 _ _ rfl w1.heap.size (ctxRow [0, 0, 0, 0, 0, 0, 0, 0, 0, 0, 0, 0, 0, 0, 0, 0] A 1 c) rfl rfl 29 (ctxRow [0, 0, 0, 0, 0, 0, 0, 0, 0, 0, 0, 0, 0, 0, 0, 0] none 0 0) (Bk.new w1 _ _) (IZ.out _ _ _) rfl (ctxRow_one _ _ _ _) ?_; intro w2 k2 g2 s2; have B2 := hidd_ (((Below.refl w1.heap.size w1).alloc (Nat.le_refl _) (.cells (ctxRow [0, 0, 0, 0, 0, 0, 0, 0, 0, 0, 0, 0, 0, 0, 0, 0] none 0 0) 29)).grown g2 (by simp) (fun k hk => by injection hk with hk; omega)); have K2 := hidd_ k2; have S2 := hidd_ (show w2.heap.size = w1.heap.size + 1 by rw [s2]; simp); clear k2 g2 s2))
  have X2 := hidd_ (X1.out.trans (B2.out.mono X1.out.size))
  generalize w1.heap.size = q at *
  have K2' := hidd_ (show Bk w2 q 29 (ctxRow [0, 0, 0, 0, 0, 0, 0, 0, 0, 0, 0, 0, 0, 0, 0, 0] A 1 c) from K2.out)
  have hq2 : q < w2.heap.size := K2'.out.lt
  have c2 : Calls Try.prog 26 #[.agg (ctxRow [0, 0, 0, 0, 0, 0, 0, 0, 0, 0, 0, 0, 0, 0, 0, 0] A 1 c), .agg #[.int .i64 1, .int .i64 1]] w2 (TwoP (AddV [0, 0, 0, 0, 0, 0, 0, 0, 0, 0, 0, 0, 0, 0, 0, 0] [⟨1, 2⟩] ⟨1, 1⟩) w2) := add_any w2 _ (by simp) A 1 c [⟨1, 2⟩] rfl (by omega) C1.out.1 ((R1.out.below B2.out).more (by omega)) ⟨1, 1⟩
  clear K2
  go_upto_region 3 with (first
    | (refine wpList_load_row rfl 29 (.tmp 1) rfl q rfl 29 (ctxRow [0, 0, 0, 0, 0, 0, 0, 0, 0, 0, 0, 0, 0, 0, 0, 0] A 1 c) (0, 0) _ K2'.out Try.underlying29 rfl (IZ.out _ _ _) ?_)
    | (go_at_call 26; ((with_reducible refine c2.mono ?_); clear c2; rintro e w3 ⟨u, m, A3, c3, z, rfl, h1, _, h2, h3, h4, h5, h6⟩; obtain ⟨rfl, rfl, rfl⟩ := addV_second h5; rw [show TwoX [2, 0, 0, 0, 0, 0, 0, 0, 0, 0, 0, 0, 0, 0, 0, 0] A3 [] c3 0 = .tuple #[.agg (ctxRow [2, 0, 0, 0, 0, 0, 0, 0, 0, 0, 0, 0, 0, 0, 0, 0] A3 0 c3), .int .i64 0] from rfl]; have X3 := hidd_ (X2.out.trans (h6.mono X2.out.size)); have K3 := hidd_ (K2'.out.below h6 K2'.out.lt); clear h1 h2 h3 h4 h5 h6))
    | (refine wpList_put_row rfl 29 _ _ rfl w3.heap.size (ctxRow [2, 0, 0, 0, 0, 0, 0, 0, 0, 0, 0, 0, 0, 0, 0, 0] A3 0 c3) rfl rfl 29 (ctxRow [0, 0, 0, 0, 0, 0, 0, 0, 0, 0, 0, 0, 0, 0, 0, 0] none 0 0) (Bk.new w3 _ _) (IV.out _ _ _) rfl (ctxRow_one _ _ _ _) ?_; intro w4 k4 g4 s4; have B4 := hidd_ (((Below.refl w3.heap.size w3).alloc (Nat.le_refl _) (.cells (ctxRow [0, 0, 0, 0, 0, 0, 0, 0, 0, 0, 0, 0, 0, 0, 0, 0] none 0 0) 29)).grown g4 (by simp) (fun k hk => by injection hk with hk; omega)); have K4 := hidd_ k4; clear k4 g4 s4))
  have J4 := hidd_ (K3.out.below B4.out K3.out.lt)
  have X4 := hidd_ (X3.out.trans (B4.out.mono X3.out.size))
  generalize w3.heap.size = p at *
  have K4' := hidd_ (show Bk w4 p 29 (ctxRow [2, 0, 0, 0, 0, 0, 0, 0, 0, 0, 0, 0, 0, 0, 0, 0] A3 0 c3) from K4.out)
  clear K4 B4 K3 X3
  have ch := has_any_ w4 [2, 0, 0, 0, 0, 0, 0, 0, 0, 0, 0, 0, 0, 0, 0, 0] rfl A3 0 c3 [] rfl (by omega) (by omega) RdD.nil ⟨1, 2⟩
  rw [has_dots] at ch
  have ch' : Calls Try.prog 17 #[.agg (ctxRow [2, 0, 0, 0, 0, 0, 0, 0, 0, 0, 0, 0, 0, 0, 0, 0] A3 0 c3), .agg #[.int .i64 1, .int .i64 2]] w4 fun e w' => e = .returned (.bool true) ∧ Below w4.heap.size w4 w' := ch
  clear ch
  have h1 := (J4.out.cell 16).trans (ctxRow_more [0, 0, 0, 0, 0, 0, 0, 0, 0, 0, 0, 0, 0, 0, 0, 0] A 1 c rfl)
  have h2 := (K4'.out.cell 16).trans (ctxRow_more [2, 0, 0, 0, 0, 0, 0, 0, 0, 0, 0, 0, 0, 0, 0, 0] A3 0 c3 rfl)
  have h3 : w4.cell? ⟨p, 0, none⟩ = some (.int .i64 2) := (K4'.out.cell 0).trans (ctxRow_up [2, 0, 0, 0, 0, 0, 0, 0, 0, 0, 0, 0, 0, 0, 0, 0] A3 0 c3 0 rfl (by omega))
  go_wp2_with (first
    | (refine wpList_load_rowWd (by go_simp) 29 (.tmp 3) rfl p rfl 29 (ctxRow [2, 0, 0, 0, 0, 0, 0, 0, 0, 0, 0, 0, 0, 0, 0, 0] A3 0 c3) K4'.out _ Try.underlying29 rfl (IV.out _ _ _) ?_)
    | (go_at_call 17; ((with_reducible refine ch'.mono ?_); clear ch'; rintro e w5 ⟨rfl, hb⟩; have X5 := hidd_ (X4.out.trans (hb.mono X4.out.size)); clear hb)))
  go_ret
  exact ⟨rfl, X5.out⟩
end Go.Proofs.Ytjflmfmncepeeaa
