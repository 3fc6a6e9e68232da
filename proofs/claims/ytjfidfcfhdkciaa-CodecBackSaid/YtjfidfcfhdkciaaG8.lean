/-
  casketlaw08.codes: have a number and a text their bytes?
-/
import Derived.Test.YtjfidfcfhdkciaaG7
import Derived.Lib.SlBytesConst
namespace Go.Proofs.Ytjfidfcfhdkciaa
open Go.RowKit
set_option linter.unusedVariables false
set_option linter.unusedSimpArgs false

theorem OutF.zero (w : World) : OutF (w.alloc (.cells #[.pointer none, .int .i64 0, .bool false] 33)) w.heap.size [] false [w.heap.size] :=
  ⟨by simp, .pointer none, Bk.new w _ _, .inl ⟨rfl, rfl⟩⟩
theorem rdf_new {w w1 : World} {F : List Nat} {A : Option Addr} {m : List UInt8} (hr : Rd w1 w1.heap.size A m) (hA : ∀ a, A = some a → w.heap.size ≤ a.block) : RdF w1 (trim w F) A m := fun hn => by
  obtain ⟨b, off, e, hlt, hc⟩ := hr hn
  exact ⟨b, off, e, fun hm => by have := (mem_trim.1 hm).2; have := hA _ e; simp only at this; omega, hlt, hc⟩
/-- Bytes, of a slice whose memory was not there. -/
theorem bytes_new (w w1 : World) (g : Nat) (l : List UInt8) (bad : Bool) (F : List Nat) (A : Option Addr) (n c : Nat) (m : List UInt8) (h : OutF w g l bad F) (hb : Below w.heap.size w w1) (hr : Rd w1 w1.heap.size A m) (hA : ∀ a, A = some a → w.heap.size ≤ a.block) (hm : m.length = n) (hs : l.length + 4 + n ≤ 140737488355328) :
    Calls Try.prog 16 #[.pointer (some ⟨g, 0, none⟩), .slice A n c] w1 (OutP w g (l ++ highB 4 n ++ m) bad F) :=
  (bytes_any w1 g l bad (trim w F) A n c m (h.trim.below hb) (rdf_new hr hA) hm hs).mono fun e w' hh => OutP.untrim (hh.from (.of_below hb))

set_option maxRecDepth 100000 in
set_option maxHeartbeats 2000000 in
theorem codes_any (w : World) : Calls Try.prog 12 #[] w fun e w' => e = .returned (.bool true) ∧ Below w.heap.size w w' := by
  have HO := hidg_ (OutF.zero w)
  have HB1 := hidg_ ((Below.refl w.heap.size w).alloc (Nat.le_refl _) (.cells #[.pointer none, .int .i64 0, .bool false] 33))
  have c1 : Calls Try.prog 14 #[.pointer (some ⟨w.heap.size, 0, none⟩), .int .i64 3] (w.alloc (.cells #[.pointer none, .int .i64 0, .bool false] 33)) (OutP (w.alloc (.cells #[.pointer none, .int .i64 0, .bool false] 33)) w.heap.size ([] ++ [3]) false [w.heap.size]) := small_any _ _ [] false _ 3 HO.out (by omega) (by decide)
  have k1 := fun W => Lib.run_convert_bytes_const (P := Try.prog) W 24 5 #[.int .u8 97, .int .u8 98] 2 2 Try.underlying24 Try.underlying5
  go_enter Try.func12, Try.ntmps12
  go_wp2_with (first
    | (go_at_call 14; ((with_reducible refine c1.mono ?_); rintro e w2 ⟨rfl, F2, hO2, hG2, hU2⟩; have O2 := hidg_ hO2; have G2 := hidg_ hG2; have U2 := hidg_ hU2; clear hO2 hG2 hU2))
    | (go_at_call 16; have cp : Calls Try.prog 16 #[.pointer (some ⟨w.heap.size, 0, none⟩), .slice (some ⟨w2.heap.size, 0, none⟩) 2 2] (w2.alloc (.cells #[.int .u8 97, .int .u8 98] 5 (2, 3))) (OutP w2 w.heap.size [3, 0, 0, 0, 2, 97, 98] false F2) := bytes_new w2 _ w.heap.size [3] false F2 (some ⟨w2.heap.size, 0, none⟩) 2 2 [97, 98] O2.out ((Below.refl _ _).alloc (Nat.le_refl _) _) ((rd_mark w2 [97, 98] (2, 3)).more (by simp)) (fun a e => by injection e with e; rw [← e]; exact Nat.le_refl _) rfl (by decide); ((with_reducible refine cp.mono ?_); clear cp; rintro e w3 ⟨rfl, F3, hO3, hG3, hU3⟩; have O3 := hidg_ hO3; have G3 := hidg_ hG3; have U3 := hidg_ hU3; clear hO3 hG3 hU3))
    | (go_at_call 11; have cp := done_any w3 w.heap.size 7 [3, 0, 0, 0, 2, 97, 98] false F3 O3.out rfl (by decide); ((with_reducible refine cp.mono ?_); clear cp; rintro e w4 ⟨A4, c4, rfl, hO4, hB4⟩; have cv : (convert 24 9 (.slice A4 7 c4)).run Try.prog w4 = .ok (.string { data := #[3, 0, 0, 0, 2, 97, 98] }) w4 := conv_strn hO4.rd.1 7 c4 rfl; have B4 := hidg_ hB4; clear hO4 hB4)))
  go_ret
  refine ⟨rfl, ?_⟩
  have hs2 := U2.out.size
  have hs3 := U3.out.size
  have hg : ∀ k ∈ F2, w.heap.size ≤ k := fun k hk => by
    rcases G2.out k hk with h | h
    · simp at h; omega
    · simp at h; omega
  have x2 := U2.out.below (B := w.heap.size) (fun k hk => by simp at hk; omega) (by simp)
  have x3 := U3.out.below (B := w.heap.size) hg (by have := x2.size; simp at this; omega)
  have x4 := B4.out.mono (B' := w.heap.size) (by have := x2.size; have := x3.size; simp at *; omega)
  exact ((HB1.out.trans x2).trans x3).trans x4
end Go.Proofs.Ytjfidfcfhdkciaa
