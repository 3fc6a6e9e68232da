/-
  codec.Out.put: its region of fourteen operations, told by what holds of them together.
-/
import Derived.Test.YtnlipmcnpekifaaG2
import Derived.Test.YtnlipmcnpekifaaFj
namespace Go.Proofs.Ytnlipmcnpekifaa
set_option maxRecDepth 100000
open Go.RowKit
set_option linter.unusedVariables false
set_option linter.unusedSimpArgs false
/-- What an Out with memory behind it is. -/
structure OutN (w : World) (g : Nat) (l : List UInt8) (bad wrong : Bool) (F : List Nat) (h : Nat) (A : Option Addr) (n c : Nat) : Prop where
  gF : g ∈ F
  hF : h ∈ F
  ne : h ≠ g
  head : Bk w g 61 #[.pointer (some ⟨h, 0, none⟩), .int .i64 (n : Int), .bool bad, .bool wrong]
  mid : Bk w h 30 #[.slice A n c]
  own : Own8 w 0 (.slice A n c) l
  far : ∀ b, (Value.slice A n c).ownBlock = some b → b ∈ F ∧ b ≠ g ∧ b ≠ h
theorem OutN.born {wd w' : World} {g N z q3 : Nat} {bad wrong : Bool} {F : List Nat} {A3 : Option Addr} (hg : g ∈ F) (hN : w'.heap.size = N) (hB : Bk wd g 61 #[.pointer none, .int .i64 (z : Int), .bool bad, .bool wrong])
    (ho : Own8 w' wd.heap.size (.slice A3 z q3) []) (hb : Below wd.heap.size wd w') :
    OutN ((w'.alloc (.cells #[.slice A3 z q3] 30)).setCell ⟨g, 0, none⟩ (.pointer (some ⟨N, 0, none⟩))) g [] bad wrong (N :: ((Value.slice A3 z q3).ownBlock.toList ++ F)) N A3 z q3 ∧
      Grew wd F (N :: ((Value.slice A3 z q3).ownBlock.toList ++ F)) ∧ Untouched F wd ((w'.alloc (.cells #[.slice A3 z q3] 30)).setCell ⟨g, 0, none⟩ (.pointer (some ⟨N, 0, none⟩))) := by
  subst hN
  have hgl := hB.lt
  have hs := hb.size
  have hne : g ≠ w'.heap.size := by omega
  obtain ⟨_, _, _, _, hbd⟩ := ho.form
  have hG : Grew wd F (w'.heap.size :: ((Value.slice A3 z q3).ownBlock.toList ++ F)) := by
    intro k hk
    rcases List.mem_cons.1 hk with e | hk
    · exact .inr (by omega)
    · rcases List.mem_append.1 hk with hk | hk
      · have e : (Value.slice A3 z q3).ownBlock = some k := by simpa using hk
        exact .inr (hbd k e).1
      · exact .inl hk
  refine ⟨⟨by simp [hg], by simp, fun e => hne e.symm, ?_, ?_, ?_, ?_⟩, hG, ?_⟩
  · exact ((hB.below hb hgl).alloc (.cells #[.slice A3 z q3] 30)).set_ 0 (.pointer (some ⟨w'.heap.size, 0, none⟩))
  · exact (Bk.new w' 30 #[.slice A3 z q3]).far (p := ⟨g, 0, none⟩) (fun e => hne e.symm) _
  · have h1 := (ho.lower (Nat.zero_le _)).alloc (.cells #[.slice A3 z q3] 30)
    exact h1.kept (grown_put (World.grownBy.refl _ (some g)) 0 _) (by
      cases hv : (Value.slice A3 z q3).ownBlock with
      | none => exact .inl rfl
      | some b => exact .inr (by have := (hbd b hv).1; intro e; injection e with e; omega))
  · intro b hv
    have := hbd b hv
    exact ⟨by simp [hv], by omega, by omega⟩
  · refine (Untouched.of_below hb).trans hG ((Untouched.alloc _).trans (Grew.refl _ _) (Untouched.set g 0 (by simp [hg]) _))
theorem OutN.last {wc w6 : World} {g h z c2 m1 c1 : Nat} {bad wrong : Bool} {F2 : List Nat} {A2 A1 : Option Addr} {l l' : List UInt8} (hN : OutN wc g l bad wrong F2 h A2 z c2) (hu : Untouched F2 wc w6)
    (hhd : Bk w6 g 61 #[.pointer (some ⟨h, 0, none⟩), .int .i64 (z : Int), .bool bad, .bool wrong]) (hm6 : Bk w6 h 30 #[.slice A1 m1 c1]) (ho : Own8 w6 0 (.slice A1 m1 c1) l')
    (hb : (Value.slice A1 m1 c1).ownBlock = (Value.slice A2 z c2).ownBlock ∨ ∃ k, (Value.slice A1 m1 c1).ownBlock = some k ∧ wc.heap.size ≤ k) :
    OutN (w6.setCell ⟨g, 1, none⟩ (.int .i64 (m1 : Int))) g l' bad wrong ((Value.slice A1 m1 c1).ownBlock.toList ++ F2) h A1 m1 c1 ∧ Grew wc F2 ((Value.slice A1 m1 c1).ownBlock.toList ++ F2) ∧ Untouched F2 wc (w6.setCell ⟨g, 1, none⟩ (.int .i64 (m1 : Int))) := by
  have hgl := hN.head.lt
  have hhl := hN.mid.lt
  have hfar : ∀ b, (Value.slice A1 m1 c1).ownBlock = some b → (b ∈ F2 ∨ wc.heap.size ≤ b) ∧ b ≠ g ∧ b ≠ h := by
    intro b hv
    rcases hb with h1 | ⟨k, h1, h2⟩
    · rw [h1] at hv
      have := hN.far b hv
      exact ⟨.inl this.1, this.2⟩
    · rw [h1] at hv
      injection hv with hv
      exact ⟨.inr (by omega), by omega, by omega⟩
  refine ⟨⟨by simp [hN.gF], by simp [hN.hF], hN.ne, ?_, hm6.far (p := ⟨g, 1, none⟩) hN.ne _, ?_, ?_⟩, ?_, hu.trans (Grew.refl _ _) (Untouched.set g 1 hN.gF _)⟩
  · exact hhd.set_ 1 (.int .i64 (m1 : Int))
  · exact ho.kept (grown_put (World.grownBy.refl _ (some g)) 1 _) (by
      cases hv : (Value.slice A1 m1 c1).ownBlock with
      | none => exact .inl rfl
      | some b => exact .inr (by have := (hfar b hv).2.1; intro e; injection e with e; omega))
  · intro b hv
    exact ⟨by simp [hv], (hfar b hv).2⟩
  · intro k hk
    rcases List.mem_append.1 hk with hk | hk
    · have e : (Value.slice A1 m1 c1).ownBlock = some k := by simpa using hk
      exact (hfar k e).1
    · exact .inl hk
/-- What each operation leaves. -/
def PutR (g h : Nat) (A : Option Addr) (n c : Nat) (X : Option Addr) (m k : Nat) : Nat → Value → Prop
  | 0, v => v = .pointer (some ⟨g, 0, none⟩)
  | 1, v => v = .pointer (some ⟨g, 0, none⟩)
  | 2, v => v = .pointer (some ⟨g, 0, none⟩)
  | 3, v => v = .pointer (some ⟨h, 0, none⟩)
  | 4, v => v = .pointer (some ⟨g, 0, none⟩)
  | 5, v => v = .pointer (some ⟨g, 0, none⟩)
  | 6, v => v = .pointer (some ⟨g, 0, none⟩)
  | 7, v => v = .pointer (some ⟨h, 0, none⟩)
  | 8, v => v = .pointer (some ⟨h, 0, none⟩)
  | 9, v => v = .slice A n c
  | 10, v => v = .slice X m k
  | 12, v => v = .pointer (some ⟨h, 0, none⟩)
  | _, _ => True
/-- What holds of them together. -/
structure PutJ (N h : Nat) (A : Option Addr) (n c : Nat) (l x : List UInt8) (L : Nat → Bool) (a : Act) (w : World) : Prop where
  o9 : L 11 = true → L 9 = true
  o11 : L 13 = true → L 11 = true
  mid : L 13 = false → Bk w h 30 #[.slice A n c]
  own : L 11 = false → Own8 w 0 (.slice A n c) l
  new : L 11 = true → ∃ A1 m1 c1, a.tmps.getD 43 undef = .slice A1 m1 c1 ∧ Own8 w 0 (.slice A1 m1 c1) (l ++ x) ∧ ((Value.slice A1 m1 c1).ownBlock = (Value.slice A n c).ownBlock ∨ ∃ k, (Value.slice A1 m1 c1).ownBlock = some k ∧ N ≤ k)
  put : L 13 = true → Bk w h 30 #[a.tmps.getD 43 undef]
theorem PutJ.same {N h : Nat} {A : Option Addr} {n c : Nat} {l x : List UInt8} {L : Nat → Bool} {a : Act} {w : World} (hJ : PutJ N h A n c l x L a w) (i : Nat) (h11 : i ≠ 11) (h13 : i ≠ 13) (d : Option Nat) (v : Value) (hd : d ≠ some 43) :
    PutJ N h A n c l x (fun j => decide (j = i) || L j) (a.put d v) w := by
  have e11 := orf_ne (L := L) (i := i) (fun e : 11 = i => h11 e.symm)
  have e13 := orf_ne (L := L) (i := i) (fun e : 13 = i => h13 e.symm)
  have s43 := put_getD_ne a d v 43 hd
  obtain ⟨o9, o11, mid, own, new, put⟩ := hJ
  refine ⟨?_, ?_, ?_, ?_, ?_, ?_⟩ <;> simp only [e11, e13, s43]
  · intro hl
    rw [o9 hl]
    simp
  · exact o11
  · exact mid
  · exact own
  · exact new
  · exact put
theorem PutJ.start {N h : Nat} {A : Option Addr} {n c : Nat} {l x : List UInt8} {a : Act} {w : World} (hm : Bk w h 30 #[.slice A n c]) (ho : Own8 w 0 (.slice A n c) l) : PutJ N h A n c l x (fun _ => false) a w :=
  ⟨fun e => Bool.noConfusion e, fun e => Bool.noConfusion e, fun _ => hm, fun _ => ho, fun e => Bool.noConfusion e, fun e => Bool.noConfusion e⟩
theorem PutJ.app {N h : Nat} {A : Option Addr} {n c : Nat} {l x : List UInt8} {L : Nat → Bool} {a : Act} {w w' : World} (hJ : PutJ N h A n c l x L a w) (hL : L 11 = false) (h9 : L 9 = true) (hsz : 43 < a.tmps.size) (A1 : Option Addr) (m1 c1 : Nat)
    (ho : Own8 w' 0 (.slice A1 m1 c1) (l ++ x)) (hb : (Value.slice A1 m1 c1).ownBlock = (Value.slice A n c).ownBlock ∨ ∃ k, (Value.slice A1 m1 c1).ownBlock = some k ∧ N ≤ k) (hm : Bk w h 30 #[.slice A n c] → Bk w' h 30 #[.slice A n c]) :
    PutJ N h A n c l x (fun j => decide (j = 11) || L j) (a.put (some 43) (.slice A1 m1 c1)) w' := by
  have e9 := orf_ne (L := L) (show 9 ≠ 11 by omega)
  have e13 := orf_ne (L := L) (show 13 ≠ 11 by omega)
  have s43 := put_getD_eq a (.slice A1 m1 c1) 43 hsz
  obtain ⟨o9, o11, mid, own, new, put⟩ := hJ
  have h13 : L 13 = false := by
    cases h : L 13 with
    | false => rfl
    | true => rw [hL] at o11; exact absurd (o11 h) (by decide)
  refine ⟨?_, ?_, ?_, ?_, ?_, ?_⟩ <;> simp only [e9, e13, s43]
  · exact fun _ => h9
  · exact fun _ => by simp
  · exact fun h => hm (mid h)
  · intro h; simp at h
  · exact fun _ => ⟨A1, m1, c1, rfl, ho, hb⟩
  · intro h; rw [h13] at h; cases h
theorem PutJ.store {N h : Nat} {A : Option Addr} {n c : Nat} {l x : List UInt8} {L : Nat → Bool} {a : Act} {w w' : World} (hJ : PutJ N h A n c l x L a w) (h11 : L 11 = true)
    (hm : Bk w' h 30 #[a.tmps.getD 43 undef]) (hk : ∀ v, Own8 w 0 v (l ++ x) → v.ownBlock ≠ some h → Own8 w' 0 v (l ++ x)) (hne : ∀ A1 m1 c1, ((Value.slice A1 m1 c1).ownBlock = (Value.slice A n c).ownBlock ∨ ∃ k, (Value.slice A1 m1 c1).ownBlock = some k ∧ N ≤ k) → (Value.slice A1 m1 c1).ownBlock ≠ some h) :
    PutJ N h A n c l x (fun j => decide (j = 13) || L j) (a.put none undef) w' := by
  have e9 := orf_ne (L := L) (show 9 ≠ 13 by omega)
  have e11 := orf_ne (L := L) (show 11 ≠ 13 by omega)
  have s43 := put_getD_ne a none undef 43 (by decide)
  obtain ⟨o9, o11, mid, own, new, put⟩ := hJ
  refine ⟨?_, ?_, ?_, ?_, ?_, ?_⟩ <;> simp only [e9, e11, s43]
  · exact o9
  · exact fun _ => h11
  · intro h; simp at h
  · intro h; rw [h11] at h; cases h
  · intro h
    obtain ⟨A1, m1, c1, e, ho, hb⟩ := new h
    exact ⟨A1, m1, c1, e, hk _ ho (hne _ _ _ hb), hb⟩
  · exact fun _ => hm
end Go.Proofs.Ytnlipmcnpekifaa
