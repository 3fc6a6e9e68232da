/-
  A message of the document's in memory.
-/
import Derived.Test.YtnlipmcnpekifaaMol
import Derived.Test.YtnlipmcnpekifaaGrs
namespace Go.Proofs.Ytnlipmcnpekifaa
set_option maxRecDepth 100000
open Go.RowKit
set_option linter.unusedVariables false
set_option linter.unusedSimpArgs false

/-- Strings: one cell each. -/
def strE : Enc (List UInt8) := ⟨1, by decide, fun l => [.string (strOf l)], fun _ => rfl, fun x u h => by rw [List.mem_singleton.1 h]; rfl⟩
/-- Rows of the document's: two strings. -/
def rrE : Enc KrV := ⟨2, by decide, fun r => [.string (strOf r.key), .string (strOf r.set)], fun _ => rfl, fun x u h => by simp at h; rcases h with rfl | rfl <;> rfl⟩
theorem infoStr : (Try.prog.info? 9).map (fun i => (i.size, i.bytes, i.zero.map (·.cells.size))) = some (strE.k, 16, some strE.k) := by kernel_rfl
theorem infoRr : (Try.prog.info? 23).map (fun i => (i.size, i.bytes, i.zero.map (·.cells.size))) = some (rrE.k, 32, some rrE.k) := by kernel_rfl
structure RmV where
  kind : Int
  frm : Int
  ask : Int
  err : Int
  for_ : Int
  level : Int
  key : List UInt8
  set : List UInt8
  ats : List Int
  aa : Option Addr
  ac : Nat
  digs : List (List UInt8)
  da : Option Addr
  dc : Nat
  rows : List KrV
  ra : Option Addr
  rc : Nat
instance : Inhabited RmV := ⟨⟨0, 0, 0, 0, 0, 0, [], [], [], none, 0, [], none, 0, [], none, 0⟩⟩
def RmV.v (q : RmV) : MgV := ⟨q.kind, q.frm, q.ask, q.err, q.for_, q.level, ⟨q.key, q.set⟩, q.ats, q.digs, q.rows⟩
def rmC (q : RmV) : Array Value := #[.int .i64 q.kind, .int .i64 q.frm, .int .i64 q.ask, .int .i64 q.err, .int .i64 q.for_, .int .i64 q.level, .string (strOf q.key), .string (strOf q.set), .slice q.aa q.ats.length q.ac, .slice q.da q.digs.length q.dc, .slice q.ra q.rows.length q.rc]
structure RmV.Ok (w : World) (B : Nat) (q : RmV) : Prop where
  ats : RdG intE w B q.aa q.ats
  digs : RdG strE w B q.da q.digs
  rows : RdG rrE w B q.ra q.rows
theorem RmV.Ok.below {w w' : World} {B : Nat} {q : RmV} (h : q.Ok w B) (hb : Below B w w') : q.Ok w' B := ⟨h.ats.below hb, h.digs.below hb, h.rows.below hb⟩
theorem RmV.Ok.more {w : World} {B C : Nat} {q : RmV} (h : q.Ok w B) (hB : B ≤ C) : q.Ok w C := ⟨h.ats.more hB, h.digs.more hB, h.rows.more hB⟩
def rmZ : RmV := ⟨0, 0, 0, 0, 0, 0, [], [], [], none, 0, [], none, 0, [], none, 0⟩
theorem zRm (W : World) : (zeroValue 28).run Try.prog W = .ok (.agg (rmC rmZ)) W := by kernel_rfl
theorem iRm (q : RmV) : (Try.prog.info? 28).map (·.size) = some (rmC q).size := by kernel_rfl
theorem rmC_one (q : RmV) : (rmC q).all (·.oneCell') = true := by simp [rmC, Value.oneCell']
theorem built_rm0 : Try.prog.built 28 [] = some (rmC rmZ) := by kernel_rfl
end Go.Proofs.Ytnlipmcnpekifaa
