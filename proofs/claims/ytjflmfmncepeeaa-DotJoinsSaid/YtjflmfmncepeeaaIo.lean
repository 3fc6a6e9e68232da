/-
  slices.SortFunc at dots, by byDot, at a slice of the call's own.
-/
import Derived.Test.YtjflmfmncepeeaaIn
import Derived.Test.YtjflmfmncepeeaaIm
import Derived.Shelf.SlSortCmp.WholeK
import Derived.Shelf.SlGeneric
import Derived.Ground.SlsfProg
namespace Go.Proofs.Ytjflmfmncepeeaa
open Go.RowKit
open Go.Shelf
open Go.Sort (flatK get_flatK size_flatK HoldsK putRowK)
set_option linter.unusedVariables false
set_option linter.unusedSimpArgs false

instance : Inhabited DotV := ⟨⟨0, 0⟩⟩
def sortDots_ren : Go.Shelf.Ren := ⟨fun | 6 => 64 | 15 => 76 | 14 => 75 | 28 => 87 | 29 => 88 | 20 => 79 | 21 => 80 | 22 => 81 | 23 => 82 | 24 => 83 | 25 => 84 | 26 => 85 | 27 => 86 | 46 => 90 | 47 => 91 | 48 => 92 | 49 => 93 | 50 => 94 | 57 => 95 | n => n, fun | 22 => 23 | 24 => 27 | 25 => 71 | 3 => 3 | 39 => 112 | 0 => 0 | 53 => 122 | 55 => 62 | 4 => 4 | 46 => 116 | 45 => 115 | 50 => 107 | 5 => 5 | 9 => 9 | 66 => 125 | 70 => 99 | 76 => 130 | 77 => 131 | n => n, fun | n => n⟩
theorem sortDots : Go.Proofs.SlLaysF0.n6 Try.prog sortDots_ren := {
  mixed := by kernel_rfl
  f6 := ⟨Try.f64.name, by decide, Try.func64.trans (congrArg some (by kernel_rfl))⟩
  f14 := ⟨Try.f75.name, by decide, Try.func75.trans (congrArg some (by kernel_rfl))⟩
  f15 := Try.func76.trans (congrArg some (by kernel_rfl))
  f20 := ⟨Try.f79.name, by decide, Try.func79.trans (congrArg some (by kernel_rfl))⟩
  f21 := ⟨Try.f80.name, by decide, Try.func80.trans (congrArg some (by kernel_rfl))⟩
  f22 := ⟨Try.f81.name, by decide, Try.func81.trans (congrArg some (by kernel_rfl))⟩
  f23 := ⟨Try.f82.name, by decide, Try.func82.trans (congrArg some (by kernel_rfl))⟩
  f24 := ⟨Try.f83.name, by decide, Try.func83.trans (congrArg some (by kernel_rfl))⟩
  f25 := ⟨Try.f84.name, by decide, Try.func84.trans (congrArg some (by kernel_rfl))⟩
  f26 := ⟨Try.f85.name, by decide, Try.func85.trans (congrArg some (by kernel_rfl))⟩
  f27 := ⟨Try.f86.name, by decide, Try.func86.trans (congrArg some (by kernel_rfl))⟩
  f28 := Try.func87.trans (congrArg some (by kernel_rfl))
  f29 := Try.func88.trans (congrArg some (by kernel_rfl))
  f46 := ⟨Try.f90.name, by decide, Try.func90.trans (congrArg some (by kernel_rfl))⟩
  f47 := Try.func91.trans (congrArg some (by kernel_rfl))
  f48 := Try.func92.trans (congrArg some (by kernel_rfl))
  f49 := ⟨Try.f93.name, by decide, Try.func93.trans (congrArg some (by kernel_rfl))⟩
  f50 := ⟨Try.f94.name, by decide, Try.func94.trans (congrArg some (by kernel_rfl))⟩
  f57 := ⟨Try.f95.name, by decide, Try.func95.trans (congrArg some (by kernel_rfl))⟩
  t0 := Try.underlying0
  a0 := Try.isAgg0
  z0 := Try.sizeOf0
  v0 := Try.zeroValue0
  t3 := Try.underlying3
  a3 := Try.isAgg3
  z3 := Try.sizeOf3
  v3 := Try.zeroValue3
  t4 := Try.underlying4
  a4 := Try.isAgg4
  z4 := Try.sizeOf4
  v4 := Try.zeroValue4
  t5 := Try.underlying5
  a5 := Try.isAgg5
  z5 := Try.sizeOf5
  v5 := Try.zeroValue5
  t9 := Try.underlying9
  a9 := Try.isAgg9
  z9 := Try.sizeOf9
  v9 := Try.zeroValue9
  t22 := Try.underlying23
  a22 := Try.isAgg23
  z22 := Try.sizeOf23
  v22 := Try.zeroValue23
  t25 := Try.underlying71
  a25 := Try.isAgg71
  z25 := Try.sizeOf71
  v25 := Try.zeroValue71
  t39 := Try.underlying112
  a39 := Try.isAgg112
  z39 := Try.sizeOf112
  v39 := Try.zeroValue112
  t45 := Try.underlying115
  a45 := Try.isAgg115
  z45 := Try.sizeOf115
  v45 := Try.zeroValue115
  t46 := Try.underlying116
  a46 := Try.isAgg116
  z46 := Try.sizeOf116
  v46 := Try.zeroValue116
  t50 := Try.underlying107
  a50 := Try.isAgg107
  z50 := Try.sizeOf107
  v50 := Try.zeroValue107
  t53 := Try.underlying122
  a53 := Try.isAgg122
  z53 := Try.sizeOf122
  v53 := Try.zeroValue122
  t55 := Try.underlying62
  a55 := Try.isAgg62
  z55 := Try.sizeOf62
  v55 := Try.zeroValue62
  t66 := Try.underlying125
  a66 := Try.isAgg125
  z66 := Try.sizeOf125
  v66 := Try.zeroValue125
  t70 := Try.underlying99
  a70 := Try.isAgg99
  z70 := Try.sizeOf99
  v70 := Try.zeroValue99
  t76 := Try.underlying130
  a76 := Try.isAgg130
  z76 := Try.sizeOf130
  v76 := Try.zeroValue130
  t77 := Try.underlying131
  a77 := Try.isAgg131
  z77 := Try.sizeOf131
  v77 := Try.zeroValue131 }

def encD (x : DotV) : List Value := [.int .i64 x.c, .int .i64 x.n]
theorem get_arr (ms : List DotV) (k : Nat) : ms.toArray[k]! = ms.getD k ⟨0, 0⟩ := by
  simp only [List.getD_eq_getElem?_getD, List.getElem!_toArray, List.getElem!_eq_getElem?_getD]
  rfl
theorem flat_rowD (ms : List DotV) (t : Nat) (h : t < ms.length * 2) : (rowD ms)[t]? = some ((flatK encD 2 ms.toArray)[t]!) := by
  rw [get_flatK _ _ _ _ (by simpa using h), get_arr]
  obtain ⟨r1, r2⟩ := rowD_at ms (t / 2) (by omega)
  rcases (by omega : t = t / 2 * 2 ∨ t = t / 2 * 2 + 1) with e | e
  · have m : t % 2 = 0 := by omega
    rw [m]
    exact (congrArg (fun i => (rowD ms)[i]?) e).trans r1
  · have m : t % 2 = 1 := by omega
    rw [m]
    exact (congrArg (fun i => (rowD ms)[i]?) e).trans r2
theorem take_putD (cur : Array Value) (ms : List DotV) (h : ms.length * 2 ≤ cur.size) : (Go.Sort.putCells id 0 (flatK encD 2 ms.toArray) cur).toList.take (ms.length * 2) = rowD ms := by
  have hl := rowD_len ms
  apply List.ext_getElem?
  intro i
  rw [List.getElem?_take]
  by_cases hi : i < ms.length * 2
  · rw [if_pos hi, flat_rowD ms i hi]
    have hc : i < cur.size := by omega
    simp [Go.Sort.putCells, hc, hi]
  · rw [if_neg hi, List.getElem?_eq_none (by omega)]
theorem holdsD {w : World} {base g n c : Nat} {ms : List DotV} (hn : ms.length = n) (h : OwnD w base (.slice (some ⟨g, 0, none⟩) n c) ms) : HoldsK encD 2 w g 0 ms.toArray := fun j hj => by
  subst hn
  have hj2 : j < ms.length * 2 := by simpa using hj
  rw [Nat.zero_add]
  exact ⟨(World.ownsRow.cellAt h j hj2).trans (flat_rowD ms j hj2), World.ownsRow.frozenAt h j⟩
theorem sortedWorld {w : World} {base g n c : Nat} {ms : List DotV} (hn : ms.length = n) (h : OwnD w base (.slice (some ⟨g, 0, none⟩) n c) ms) (d' : List DotV) (hd : d'.length = n) (q : Nat) (os : Array Obj) :
    OwnD (sortWorldK encD 2 w g 0 q d'.toArray os) base (.slice (some ⟨g, 0, none⟩) n c) d' ∧ w.grownBy (sortWorldK encD 2 w g 0 q d'.toArray os) (some g) := by
  subst hn
  have hgl := (World.ownsRow.lt h g rfl).2
  rcases h.2 with ⟨hv, _⟩ | ⟨g', cap, cur, hv, hb, hg, hnc, hcm, hcs, ht⟩
  · cases hv
  · injection hv with e1 e2 e3
    injection e1 with e1
    injection e1 with e1
    subst e1 e3
    refine ⟨⟨by rw [rowD_len], .inr ⟨g, c, Go.Sort.putCells id 0 (flatK encD 2 d'.toArray) cur, by rw [hd], hb, ?_, by omega, hcm, by simp [Go.Sort.putCells, hcs], take_putD cur d' (by omega)⟩⟩, ?_⟩
    · unfold sortWorldK putRowK Go.Sort.putRow Go.Sort.mapBlock Go.Sort.grow Go.Sort.ahead
      simp only
      rw [Array.getElem?_append_left (by simpa using hgl), Array.getElem?_modify, if_pos rfl, hg]
      rfl
    · refine ⟨rfl, rfl, rfl, ?_, fun k hk hne => ?_⟩
      · unfold sortWorldK putRowK Go.Sort.putRow Go.Sort.mapBlock Go.Sort.grow Go.Sort.ahead
        simp
      · have hkg : g ≠ k := fun e => hne (by rw [e])
        unfold sortWorldK putRowK Go.Sort.putRow Go.Sort.mapBlock Go.Sort.grow Go.Sort.ahead
        simp only
        rw [Array.getElem?_append_left (by simpa using hk), Array.getElem?_modify, if_neg hkg]
theorem sort_any (w : World) (base g n c : Nat) (ms : List DotV) (hn : ms.length = n) (hn6 : n ≤ 1000000) (h : OwnD w base (.slice (some ⟨g, 0, none⟩) n c) ms) :
    Calls Try.prog 64 #[.slice (some ⟨g, 0, none⟩) n c, .func (.func 37) #[] #[]] w fun e w' => e = .returned (.tuple #[]) ∧
      ∃ ms' : List DotV, ms'.Perm ms ∧ (∀ i j, i < j → j < n → ltOf cmpD (ms'.getD j ⟨0, 0⟩) (ms'.getD i ⟨0, 0⟩) = false) ∧ OwnD w' base (.slice (some ⟨g, 0, none⟩) n c) ms' ∧ w.grownBy w' (some g) := by
  have eg : ∀ args w, (callFunc 37 args).run Try.prog w = .ok (.enter 37 args) w := enters_of Try.func37 (by kernel_rfl) rfl
  have hsz : ms.toArray.size = n := by simpa using hn
  have hcon := AnyQ.slices_SortFunc sortDots 2 (fun w => by kernel_rfl) (fun w => by kernel_rfl) encD (fun _ => rfl) (fun x v hv => by simp [encD] at hv; rcases hv with rfl | rfl <;> rfl) cmpD swoD 37 #[] g 0 c ms.toArray w eg (fun _ _ _ _ x y => byDot_grow _ x y) (holdsD hn h) (World.ownsRow.lt h g rfl).2 (by omega)
  change Calls Try.prog 64 _ _ _ at hcon
  rw [hsz] at hcon
  refine hcon.mono ?_
  rintro e w' ⟨rfl, d', q, os, hp, hs, rfl⟩
  obtain ⟨hp1, _, hp3⟩ := hp
  have hd : d'.toList.length = n := by rw [Array.length_toList, hp1, hsz]
  have hx := sortedWorld hn h d'.toList hd q os
  rw [Array.toArray_toList] at hx
  refine ⟨rfl, d'.toList, ?_, fun i j hij hj => ?_, hx⟩
  · have e1 : d'.extract 0 n = d' := by
      have : d'.size = n := by rw [hp1, hsz]
      subst this
      simp
    have e2 : ms.toArray.extract 0 n = ms.toArray := by
      have := hsz
      subst this
      simp
    rw [e1, e2] at hp3
    simpa using hp3
  · have h1 := hs i j (Nat.zero_le _) hij hj
    have e : ∀ k, d'[k]! = d'.toList.getD k ⟨0, 0⟩ := fun k => by
      have := get_arr d'.toList k
      rwa [Array.toArray_toList] at this
    rw [e, e] at h1
    exact h1
end Go.Proofs.Ytjflmfmncepeeaa
