/-
  The reference's SHA-256: casketref02.Sum.
-/
import Derived.Test.YtengjagahhfjoaaDoorR0
import Derived.Test.YtengjagahhfjoaaDoorAm
namespace Go.Proofs.YtengjagahhfjoaaDoor
open Go.RowKit
set_option linter.unusedVariables false

/-- A part of a slice. -/
theorem slice_mid (A : Option Addr) (n c lo hi : Nat) (zl zh : Int) (hzl : zl = (lo : Int)) (hzh : zh = (hi : Int)) (h1 : lo ≤ hi) (h2 : hi ≤ n) (h3 : n ≤ c) (W : World) :
    (Instr.slice 22 (.slice A n c) (some (.int .i64 zl)) (some (.int .i64 zh)) none).run Tryd.prog W = .ok (.slice (if c = lo then A else A.map (·.add lo)) (hi - lo) (c - lo)) W := by
  subst hzl hzh
  have he : Tryd.prog.elem 22 = 5 := by kernel_rfl
  rw [run_slice_lh W 22 A n c (by rw [he]; exact Tryd.underlying22) .i64 .i64 lo hi (by omega) (by omega) (by omega)]
  have hs : (sizeOf (Tryd.prog.elem 22)).run Tryd.prog W = .ok 1 W := by
    rw [he]
    obtain ⟨i, hi, hz, hsize, hby⟩ := info_parts info8
    simp [sizeOf, typeInfo, hi, hsize]
  rw [hs]
  simp only [Result.andThen, sliced, Int.toNat_natCast, Nat.mul_one]
theorem rd_mid {w : World} {B : Nat} {A : Option Addr} {l : List UInt8} (h : Rd w B A l) (c lo hi : Nat) (hlh : lo ≤ hi) (hk : hi ≤ l.length) (hc : l.length ≤ c) : Rd w B (if c = lo then A else A.map (·.add lo)) ((l.drop lo).take (hi - lo)) := by
  by_cases hck : c = lo
  · rw [if_pos hck]
    have : (l.drop lo).take (hi - lo) = [] := by
      rw [List.drop_eq_nil_of_le (by omega), List.take_nil]
    rw [this]
    exact Rd.nil
  · rw [if_neg hck]
    refine Rd.take ?_ _
    intro hn
    have hl : 0 < l.length := by simp at hn; omega
    obtain ⟨b, off, e, _⟩ := h hl
    subst e
    have hadd : (⟨b, off, none⟩ : Addr).add lo = ⟨b, off + lo, none⟩ := by unfold Addr.add; split <;> simp_all
    rw [Option.map_some, hadd]
    exact h.drop lo hn

/-- A slice of the call's own that is not empty. -/
theorem OwnT.some_ {w : World} {base : Nat} {A : Option Addr} {n c : Nat} {l : List UInt8} (h : OwnT w base (.slice A n c) l) (hl : 0 < l.length) : ∃ g, A = some ⟨g, 0, none⟩ := by
  rcases h with ⟨_, rfl⟩ | ⟨g, cap, cur, fz, hv, _⟩
  · simp at hl
  · injection hv with e1
    exact ⟨g, e1⟩
/-- A part of it. -/
theorem slice_mid2 (g n c lo hi : Nat) (zl zh : Int) (hzl : zl = (lo : Int)) (hzh : zh = (hi : Int)) (h1 : lo < hi) (h2 : hi ≤ n) (h3 : n ≤ c) (W : World) :
    (Instr.slice 22 (.slice (some ⟨g, 0, none⟩) n c) (some (.int .i64 zl)) (some (.int .i64 zh)) none).run Tryd.prog W = .ok (.slice (some ⟨g, lo, none⟩) (hi - lo) (c - lo)) W := by
  rw [slice_mid (some ⟨g, 0, none⟩) n c lo hi zl zh hzl hzh (by omega) h2 h3 W, if_neg (by omega)]
  have hadd : (⟨g, 0, none⟩ : Addr).add lo = ⟨g, lo, none⟩ := by unfold Addr.add; split <;> simp_all
  rw [Option.map_some, hadd]
theorem t1_ref (r : S8) (kx wx : Int) : ((r.h + bits BinOp.xor .u32 (bits BinOp.xor .u32 (rotn 26 r.e) (rotn 21 r.e)) (rotn 7 r.e) + bits BinOp.xor .u32 (bits BinOp.and .u32 r.e r.f) (bits BinOp.and .u32 (bits BinOp.xor .u32 (if IntKind.u32.signed = true then -1 else IntKind.u32.max) r.e) r.g) + kx) % 4294967296 + wx) % 4294967296 = t1 r kx wx := by
  rw [Int.emod_add_emod]
  rfl
theorem t2_ref (r : S8) : (bits BinOp.xor .u32 (bits BinOp.xor .u32 (rotn 30 r.a) (rotn 19 r.a)) (rotn 10 r.a) + bits BinOp.xor .u32 (bits BinOp.xor .u32 (bits BinOp.and .u32 r.a r.b) (bits BinOp.and .u32 r.a r.c)) (bits BinOp.and .u32 r.b r.c)) % 4294967296 = t2 r := rfl

theorem wordsRow8 (s : S8) : s.list.length = 8 := rfl

end Go.Proofs.YtengjagahhfjoaaDoor
