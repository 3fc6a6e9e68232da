/-
  What puts a message's parts: fixed, row.
-/
import Derived.Test.YtnlipmcnpekifaaMob
import Derived.Test.YtnlipmcnpekifaaQt
namespace Go.Proofs.Ytnlipmcnpekifaa
set_option maxRecDepth 100000
open Go.RowKit
set_option linter.unusedVariables false
set_option linter.unusedSimpArgs false

theorem fixed_new (w w1 : World) (g : Nat) (l : List UInt8) (bad wr : Bool) (F : List Nat) (A : Option Addr) (n c : Nat) (m : List UInt8) (h : OutF w g l bad wr F) (hb : Below w.heap.size w w1) (hr : Rd w1 w1.heap.size A m) (hA : ∀ a, A = some a → w.heap.size ≤ a.block) (hm : m.length = n) (hs : l.length + n ≤ 140737488355328) :
    Calls Try.prog 51 #[.pointer (some ⟨g, 0, none⟩), .slice A n c] w1 (OutP w g (l ++ m) bad wr F) :=
  (fixed_any w1 g l bad wr (trim w F) A n c m (h.trim.below hb) (rdf_new hr hA) hm hs).mono fun e w' hh => OutP.untrim (hh.from (.of_below hb))
theorem rd_bkm {w : World} {g : Nat} {t : TypeId} {l : List UInt8} {r : List Value} (h : Bk w g t ((rowOf l).toList ++ r).toArray) : Rd w w.heap.size (some ⟨g, 0, none⟩) l := fun _ => ⟨g, 0, rfl, h.lt, fun j hj => by
  rw [Nat.zero_add, h.cell j, List.getElem?_toArray, List.getElem?_append_left (by simpa [rowOf] using hj), Array.getElem?_toList]
  exact rowOf_at l j hj⟩
theorem rd_bk0 {w : World} {g : Nat} {t : TypeId} {l : List UInt8} (h : Bk w g t (rowOf l)) : Rd w w.heap.size (some ⟨g, 0, none⟩) l := fun _ => ⟨g, 0, rfl, h.lt, fun j hj => by rw [Nat.zero_add]; exact (h.cell j).trans (rowOf_at l j hj)⟩
theorem size32m (W : World) : (sizeOf (Try.prog.elem 34)).run Try.prog W = .ok 1 W := by
  have he : Try.prog.elem 34 = 5 := by kernel_rfl
  rw [he]
  obtain ⟨i, hi, hz, hsize, hby⟩ := info_parts info8
  simp [sizeOf, typeInfo, hi, hsize]
theorem sizeBm (W : World) : (sizeOf (Try.prog.elem 35)).run Try.prog W = .ok 1 W := by
  have he : Try.prog.elem 35 = 5 := by kernel_rfl
  rw [he]
  obtain ⟨i, hi, hz, hsize, hby⟩ := info_parts info8
  simp [sizeOf, typeInfo, hi, hsize]
theorem slice_all32m (g o : Nat) (W : World) :
    (Instr.sliceAt 34 (.pointer (some ⟨g, o, none⟩)) none none none).run Try.prog W = .ok (.slice (some ⟨g, o, none⟩) 32 32) W := by
  have he : Try.prog.elem 34 = 5 := by kernel_rfl
  have hn : Try.prog.arrayLen 34 = 32 := by kernel_rfl
  have ht : Try.prog.underlying 34 = some (.array (Try.prog.arrayLen 34) (Try.prog.elem 34)) := by rw [he, hn]; exact Try.underlying34
  rw [run_sliceAt_array_all W 34 ⟨g, o, none⟩ ht, size32m, hn]
  rfl
theorem slice_allBm (g o : Nat) (W : World) :
    (Instr.sliceAt 35 (.pointer (some ⟨g, o, none⟩)) none none none).run Try.prog W = .ok (.slice (some ⟨g, o, none⟩) 32 32) W := by
  have he : Try.prog.elem 35 = 5 := by kernel_rfl
  have hn : Try.prog.arrayLen 35 = 32 := by kernel_rfl
  have ht : Try.prog.underlying 35 = some (.array (Try.prog.arrayLen 35) (Try.prog.elem 35)) := by rw [he, hn]; exact Try.underlying35
  rw [run_sliceAt_array_all W 35 ⟨g, o, none⟩ ht, sizeBm, hn]
  rfl
theorem MoF.cell {w : World} {g : Nat} {st : Option (List UInt8)} {b : Nat} {F : List Nat} (h : MoF w g st b F) : ∃ wr, w.cell? ⟨g, 3, none⟩ = some (.bool wr) ∧ (wr = true ↔ st = none) := by
  obtain ⟨l, wr, h1, h2, h3⟩ := h
  refine ⟨wr, h1.wr_.1, ?_⟩
  rcases h3 with ⟨rfl, rfl⟩ | ⟨rfl, rfl⟩ <;> simp
theorem MoF.below {w w1 : World} {g : Nat} {st : Option (List UInt8)} {b : Nat} {F : List Nat} (h : MoF w g st b F) (hb : Below w.heap.size w w1) : MoF w1 g st b F := by
  obtain ⟨l, wr, h1, h2, h3⟩ := h
  exact ⟨l, wr, h1.below hb, h2, h3⟩
theorem OutF.inw {w : World} {g : Nat} {l : List UInt8} {bad wr : Bool} {F : List Nat} (h : OutF w g l bad wr F) : g < w.heap.size := by
  obtain ⟨_, all, hb, _⟩ := h
  exact hb.lt
set_option maxRecDepth 100000 in
set_option maxHeartbeats 2000000 in
theorem fixed_m (w : World) (g : Nat) (st : Option (List UInt8)) (b : Nat) (F : List Nat) (K : List UInt8) (hK : K.length = 32) (h : MoF w g st b F) (hb : b + 32 ≤ 140737488355328) :
    Calls Try.prog 19 #[.pointer (some ⟨g, 0, none⟩), .agg (rowOf K)] w (MoP w g (fxP K st) (b + 32) F) := by
  obtain ⟨w1, hw1⟩ : ∃ x, w.alloc (.cells (rowOf K) 34) = x := ⟨_, rfl⟩
  have B1 := show Below w.heap.size w w1 by rw [← hw1]; exact (Below.refl _ _).alloc (Nat.le_refl _) _
  have K1 := hidm_ (show Bk w1 w.heap.size 34 (rowOf K) by rw [← hw1]; exact Bk.new w _ _)
  obtain ⟨l, wr, hO, hl, hst⟩ := h
  have hc := (hO.below B1).wr_.1
  have HB := hidm_ B1
  have HO := hidm_ hO
  have HL := hidm_ hl
  clear B1 hO hl
  have HK := hidm_ hK
  clear hK
  cases wr
  case true =>
    obtain rfl : st = none := by rcases hst with ⟨_, h⟩ | ⟨h, _⟩; cases h; exact h
    go_enter Try.func19, Try.ntmps19
    go_wp2
    refine bodyPost_ret (results_none rfl _ _ _) rfl ?_
    exact ⟨rfl, F, ⟨l, true, HO.out.below HB.out, by have := HL.out; omega, .inr ⟨rfl, rfl⟩⟩, Grew.refl _ _, Untouched.of_below HB.out⟩
  case false =>
    obtain rfl : st = some l := by rcases hst with ⟨h, _⟩ | ⟨_, h⟩; exact h; cases h
    have hsl := fun W => slice_all32m w.heap.size 0 W
    obtain ⟨N, hN⟩ : ∃ x, w.heap.size = x := ⟨_, rfl⟩
    have HN := hidm_ hN
    have KN := hidm_ (show Bk w1 N 34 (rowOf K) by rw [← hN]; exact K1.out)
    go_enter Try.func19, Try.ntmps19
    go_upto_region 2 with fail
    refine region_quiet_tail_lit 4 (by kernel_rfl) (by kernel_rfl) ?_
    simp only [List.take_succ_cons, List.take_zero]
    repeat (go_big_quiet_want; (first
      | (refine BigFrame.quiet_move _ rfl ?_; go_simp)
      | (refine quiet_run (.pointer (some ⟨g, 0, none⟩)) ?_ ?_; (focus (intro W hW; obtain ⟨nq, rfl⟩ := hW; go_simp; done)); go_simp)
      | (refine quiet_run (.slice (some ⟨N, 0, none⟩) 32 32) ?_ ?_; (focus (intro W hW; obtain ⟨nq, rfl⟩ := hW; go_simp; done)); go_simp)); go_big_quiet_on)
    refine wpQuiet_nil ?_
    intro w' hw'
    obtain ⟨nq, rfl⟩ := hw'
    simp only [List.drop_succ_cons, List.drop_zero]
    have BQ := hidm_ (show Below w.heap.size w (w1.drewN nq) from below_drewN HB.out nq)
    have cf := fixed_new w (w1.drewN nq) g l false false F (some ⟨N, 0, none⟩) 32 32 K HO.out BQ.out (rd_bk0 (KN.out.drewN nq)) (fun a e => by injection e with e; rw [← e, HN.out]; exact Nat.le_refl _) HK.out (by have := HL.out; omega)
    go_wp2_with (go_at_call 51; ((with_reducible refine cf.mono ?_); clear cf; rintro e w2 ⟨rfl, F2, h3, h4, h5⟩; have H3 := hidm_ h3; have H4 := hidm_ h4; have H5 := hidm_ h5; clear h3 h4 h5))
    refine bodyPost_ret (results_none rfl _ _ _) rfl ?_
    exact ⟨rfl, F2, ⟨_, false, H3.out, by have := HL.out; have := HK.out; simp; omega, .inl ⟨rfl, rfl⟩⟩, H4.out, H5.out⟩
end Go.Proofs.Ytnlipmcnpekifaa
