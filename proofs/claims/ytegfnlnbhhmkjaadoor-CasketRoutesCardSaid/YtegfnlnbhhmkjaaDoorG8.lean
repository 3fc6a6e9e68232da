/-
  casketlaw08.codes: have a number and a text their bytes?
-/
import Derived.Test.YtegfnlnbhhmkjaaDoorGG
import Derived.Lib.SlBytesConst
namespace Go.Proofs.YtegfnlnbhhmkjaaDoor
set_option maxRecDepth 100000
open Go.RowKit
set_option linter.unusedVariables false
set_option linter.unusedSimpArgs false

theorem OutF.zero (w : World) : OutF (w.alloc (.cells #[.pointer none, .int .i64 0, .bool false, .bool false] 75)) w.heap.size [] false false [w.heap.size] :=
  ⟨by simp, .pointer none, Bk.new w _ _, .inl ⟨rfl, rfl⟩⟩
theorem rdf_new {w w1 : World} {F : List Nat} {A : Option Addr} {m : List UInt8} (hr : Rd w1 w1.heap.size A m) (hA : ∀ a, A = some a → w.heap.size ≤ a.block) : RdF w1 (trim w F) A m := fun hn => by
  obtain ⟨b, off, e, hlt, hc⟩ := hr hn
  exact ⟨b, off, e, fun hm => by have := (mem_trim.1 hm).2; have := hA _ e; simp only at this; omega, hlt, hc⟩
/-- Bytes, of a slice whose memory was not there. -/
theorem bytes_new (w w1 : World) (g : Nat) (l : List UInt8) (bad wrong : Bool) (F : List Nat) (A : Option Addr) (n c : Nat) (m : List UInt8) (h : OutF w g l bad wrong F) (hb : Below w.heap.size w w1) (hr : Rd w1 w1.heap.size A m) (hA : ∀ a, A = some a → w.heap.size ≤ a.block) (hm : m.length = n) (hs : l.length + 4 + n ≤ 140737488355328) :
    Calls Tryd.prog 58 #[.pointer (some ⟨g, 0, none⟩), .slice A n c] w1 (OutP w g (l ++ highB 4 n ++ m) bad wrong F) :=
  (bytes_any w1 g l bad wrong (trim w F) A n c m (h.trim.below hb) (rdf_new hr hA) hm hs).mono fun e w' hh => OutP.untrim (hh.from (.of_below hb))

end Go.Proofs.YtegfnlnbhhmkjaaDoor
