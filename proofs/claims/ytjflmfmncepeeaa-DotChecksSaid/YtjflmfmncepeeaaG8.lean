/-
  casketlaw08.codes: have a number and a text their bytes?
-/
import Derived.Test.YtjflmfmncepeeaaGG
import Derived.Lib.SlBytesConst
namespace Go.Proofs.Ytjflmfmncepeeaa
open Go.RowKit
set_option linter.unusedVariables false
set_option linter.unusedSimpArgs false

theorem OutF.zero (w : World) : OutF (w.alloc (.cells #[.pointer none, .int .i64 0, .bool false] 67)) w.heap.size [] false [w.heap.size] :=
  ⟨by simp, .pointer none, Bk.new w _ _, .inl ⟨rfl, rfl⟩⟩
theorem rdf_new {w w1 : World} {F : List Nat} {A : Option Addr} {m : List UInt8} (hr : Rd w1 w1.heap.size A m) (hA : ∀ a, A = some a → w.heap.size ≤ a.block) : RdF w1 (trim w F) A m := fun hn => by
  obtain ⟨b, off, e, hlt, hc⟩ := hr hn
  exact ⟨b, off, e, fun hm => by have := (mem_trim.1 hm).2; have := hA _ e; simp only at this; omega, hlt, hc⟩
end Go.Proofs.Ytjflmfmncepeeaa
