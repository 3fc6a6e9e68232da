/-
  log's laws: Few of what came in; bounds.
-/
import Derived.Test.YtdlciehboimciaaLhd
import Derived.Test.YtdlciehboimciaaLpv
namespace Go.Proofs.Ytdlciehboimciaa
set_option maxRecDepth 100000
open Go.RowKit
set_option linter.unusedVariables false
set_option linter.unusedSimpArgs false

theorem slice_to_rows (A : Option Addr) (n c k : Nat) (hk : k ≤ c) (W : World) :
    (Instr.slice 32 (.slice A n c) none (some (.int .i64 (k : Int))) none).run Try.prog W = .ok (.slice A k c) W := by
  have he2 : Try.prog.elem 32 = 39 := by kernel_rfl
  rw [run_slice_h W 32 A n c (by rw [he2]; exact Try.underlying32) .i64 (k : Int) (by omega) (by omega)]
  have hs : (sizeOf (Try.prog.elem 32)).run Try.prog W = .ok 1 W := by
    rw [he2]
    obtain ⟨i, hi, hz, hsize, hby⟩ := info_parts infoSl
    simp [sizeOf, typeInfo, hi, hsize]
  rw [hs]
  simp [Result.andThen, sliced]
  cases A <;> simp [Addr.add]
theorem PartsV.pta {w : World} {A : Option Addr} {L : List (List UInt8)} (h : PartsV w w.heap.size A L) : PtA w A L := fun j hj => by
  obtain ⟨b, off, e, hlt, hc⟩ := h (by omega)
  obtain ⟨Aj, cj, h1, h2, _, _⟩ := hc j hj
  exact ⟨b, off, Aj, cj, e, h1, h2, hlt⟩
theorem fewL_parts (w : World) (A : Option Addr) (n ca mo sz : Nat) (L : List (List UInt8)) (hn : L.length = n) (hA : PartsV w w.heap.size A L) (hn9 : n ≤ 9223372036854775807) (hmo : mo ≤ 1000) (hsz : sz ≤ 1000) :
    Calls Try.prog 26 #[.slice A n ca, .int .i64 (mo : Int), .int .i64 (sz : Int)] w (FewP w (min mo n) (fewL L mo sz)) := by
  refine fewL_any w A n ca mo sz L hn hA.pta hn9 (fun l hl => ?_) (fun j b off a c e hc hj => ?_) hmo hsz
  · obtain ⟨j, hj⟩ := List.mem_iff_getElem?.1 hl
    have hjl : j < L.length := (List.getElem?_eq_some_iff.1 hj).1
    obtain ⟨b, off, e, hlt, hcs⟩ := hA (by omega)
    obtain ⟨Aj, cj, _, _, h3, h4⟩ := hcs j hjl
    have : L.getD j [] = l := by simp [List.getD, hj]
    rw [this] at h3
    omega
  · obtain ⟨b', off', e', hlt, hcs⟩ := hA (by omega)
    rw [e] at e'
    injection e' with e'
    injection e' with e1 e2
    subst e1 e2
    obtain ⟨Aj, cj, h1, _, h3, _⟩ := hcs j (by omega)
    rw [hc] at h1
    injection h1 with h1
    injection h1 with _ _ h1
    omega
theorem allB_le_of (m : Nat) : ∀ R : List (List UInt8), (∀ r ∈ R, r.length ≤ m) → (allB R).length ≤ R.length * (m + 8)
  | [], _ => by simp [allB]
  | r :: R, h => by
    have h1 := h r (List.mem_cons_self ..)
    have h2 := allB_le_of m R fun x hx => h x (List.mem_cons_of_mem _ hx)
    rw [allB_cons, List.length_append, recB_len, List.length_cons, Nat.succ_mul]
    omega
theorem fewL_small (L : List (List UInt8)) (mo sz : Nat) : ∀ r ∈ fewL L mo sz, r.length ≤ sz := fun r hr => by
  obtain ⟨x, _, rfl⟩ := List.mem_map.1 hr
  rw [List.length_take]
  omega
theorem fewL_allB (L : List (List UInt8)) (mo sz : Nat) : (allB (fewL L mo sz)).length ≤ mo * (sz + 8) := by
  have h1 := allB_le_of sz (fewL L mo sz) (fewL_small L mo sz)
  have h2 : (fewL L mo sz).length ≤ mo := by rw [fewL_len]; omega
  exact Nat.le_trans h1 (Nat.mul_le_mul_right _ h2)
end Go.Proofs.Ytdlciehboimciaa
