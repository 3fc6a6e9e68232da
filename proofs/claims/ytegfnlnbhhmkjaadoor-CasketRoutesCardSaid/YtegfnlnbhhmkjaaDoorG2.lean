/-
  codec.Out.own: all bytes so far, in new memory; put.
-/
import Derived.Test.YtegfnlnbhhmkjaaDoorG1
import Derived.Test.YtegfnlnbhhmkjaaDoorQj
namespace Go.Proofs.YtegfnlnbhhmkjaaDoor
set_option maxRecDepth 100000
open Go.RowKit
set_option linter.unusedVariables false
set_option linter.unusedSimpArgs false

theorem take_all (l : List UInt8) (n : Nat) (h : l.length = n) : l.take n = l := by rw [← h, List.take_length]
theorem NewP.out {w w' : World} {n : Nat} {l : List UInt8} {e : Ending} (h : NewP w n l e w') : ∃ A c, e = .returned (.slice A n c) ∧ Own8 w' w.heap.size (.slice A n c) l ∧ Below w.heap.size w w' := h

set_option maxRecDepth 100000 in
set_option maxHeartbeats 1000000 in
theorem own_any (w : World) (g n : Nat) (l : List UInt8) (bad wrong : Bool) (F : List Nat) (h : OutF w g l bad wrong F) (hn : l.length = n) (hm : n ≤ 140737488355328) :
    Calls Tryd.prog 74 #[.pointer (some ⟨g, 0, none⟩)] w (NewP w n l) := by
  obtain ⟨hg, all, hb, hor⟩ := h
  rw [hn] at hb
  have hc0 := hb.cell 0
  have hc1 := hb.cell 1
  simp only [List.getElem?_toArray, List.getElem?_cons_zero, List.getElem?_cons_succ] at hc0 hc1
  rcases hor with ⟨rfl, rfl⟩ | ⟨h, A, c, rfl, hF, hne, hbk, ho, hown⟩
  · obtain rfl : n = 0 := hn.symm
    clear hb hc1
    go_enter Tryd.func74, Tryd.ntmps74
    go_wp2
    go_ret
    exact ⟨none, 0, rfl, Own8.nil_ _ _, Below.refl _ _⟩
  · rw [hn] at hbk ho hown
    have hh := hbk.cell 0
    simp only [List.getElem?_toArray, List.getElem?_cons_zero] at hh
    obtain ⟨hnc, hcm⟩ := ho.cap
    have hsl := fun W => slice_to A n c (n : Int) n rfl hnc W
    have HR := hidg_ ho.rd.1
    have HN := hidg_ hn
    clear hb hbk ho hown hn
    go_enter Tryd.func74, Tryd.ntmps74
    go_upto_region 3 with fail
    rename_i K hK
    refine region_quiet_tail_lit 11 (by kernel_rfl) (by kernel_rfl) ?_
    simp only [List.take_succ_cons, List.take_zero]
    repeat (go_big_quiet_want; (first
      | (refine BigFrame.quiet_move _ rfl ?_; go_simp)
      | (refine quiet_run (.pointer (some ⟨g, 0, none⟩)) ?_ ?_; (focus (intro W hW; obtain ⟨nq, rfl⟩ := hW; go_simp; done)); go_simp)
      | (refine quiet_run (.pointer (some ⟨g, 1, none⟩)) ?_ ?_; (focus (intro W hW; obtain ⟨nq, rfl⟩ := hW; go_simp; done)); go_simp)
      | (refine quiet_run (.pointer (some ⟨h, 0, none⟩)) ?_ ?_; (focus (intro W hW; obtain ⟨nq, rfl⟩ := hW; go_simp; done)); go_simp)
      | (refine quiet_run (.slice A n c) ?_ ?_; (focus (intro W hW; obtain ⟨nq, rfl⟩ := hW; go_simp; done)); go_simp)
      | (refine quiet_run (.int .i64 (n : Int)) ?_ ?_; (focus (intro W hW; obtain ⟨nq, rfl⟩ := hW; go_simp; done)); go_simp)); go_big_quiet_on)
    refine wpQuiet_nil ?_
    intro w' hw'
    obtain ⟨nq, rfl⟩ := hw'
    simp only [List.drop_succ_cons, List.drop_zero]
    have ch := clone_any A n c l (w.drewN nq) HN.out (HR.out.drewN nq) hm
    have HB := hidg_ (below_drewN (Below.refl w.heap.size w) nq)
    have HZ := hidg_ (show (w.drewN nq).heap.size = w.heap.size from rfl)
    generalize w.drewN nq = wd at *
    go_wp2_with ((go_at_call 32; ((with_reducible refine ch.mono ?_); rintro e w' ⟨A3, q3, rfl, ho, hb⟩; have HO := hidg_ ho; have HB3 := hidg_ hb; clear ho hb)))
    go_ret
    have ho := HO.out
    have hb := HB3.out
    rw [HZ.out] at ho hb
    exact ⟨A3, q3, rfl, ho, HB.out.trans hb⟩
end Go.Proofs.YtegfnlnbhhmkjaaDoor
