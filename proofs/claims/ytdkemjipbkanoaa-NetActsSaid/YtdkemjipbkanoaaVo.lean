/-
  A net and the reference's net side by side, apart from each other and from what else is the call's own.
-/
import Derived.Test.YtdkemjipbkanoaaVn
namespace Go.Proofs.Ytdkemjipbkanoaa
open Go.RowKit
set_option linter.unusedVariables false
set_option linter.unusedSimpArgs false

/-- Both nets, the blocks of each apart from those of the other, and from X. -/
structure TwF (w0 w : World) (X : Nat → Prop) (p q n : Nat) (L : List (List (List UInt8))) (F : List Nat) (rp rq rs : Nat) (Z : List (List (List UInt8))) (G : List Nat) : Prop where
  net : NetI w0 w p q n L F
  ref : RefF w rp rq rs n Z G
  hi : ∀ k ∈ G, w0.heap.size ≤ k
  dj : ∀ k ∈ F, k ∉ G
  av : ∀ k, X k → k < w.heap.size ∧ k ∉ F ∧ k ∉ G
def TwN (w0 w : World) (X : Nat → Prop) (p q n : Nat) (L : List (List (List UInt8))) (rp rq rs : Nat) (Z : List (List (List UInt8))) : Prop := ∃ F G, TwF w0 w X p q n L F rp rq rs Z G
/-- The blocks of X are as they were. -/
def KeepX (X : Nat → Prop) (w w' : World) : Prop := w.heap.size ≤ w'.heap.size ∧ ∀ k, X k → w'.heap[k]? = w.heap[k]?
/-- The block in which a slice's bytes lie, if there are any. -/
def BytesAt (A : Option Addr) (r : Nat) (b : Nat) : Prop := 0 < r ∧ ∃ o, A = some ⟨b, o, none⟩
section
variable {w0 w w' : World} {X Y : Nat → Prop} {p q n rp rq rs : Nat} {L L' Z Z' : List (List (List UInt8))} {F F' G G' : List Nat}
theorem KeepX.refl (X : Nat → Prop) (w : World) : KeepX X w w := ⟨Nat.le_refl _, fun _ _ => rfl⟩
theorem TwF.net_act (h : TwF w0 w X p q n L F rp rq rs Z G) (h1 : NetF w' p q n L' F') (h2 : Grew w F F') (h3 : Untouched F w w') : TwN w0 w' X p q n L' rp rq rs Z ∧ KeepX X w w' := by
  have hG : ∀ k ∈ F', k ∉ G := fun k hk hg => by
    rcases h2 k hk with e | e
    · exact h.dj k e hg
    · have := h.ref.hF k hg
      omega
  refine ⟨⟨F', G, h.net.act h1 h2 h3, h.ref.keep h3 (fun k hk hf => h.dj k hf hk), h.hi, hG, fun k hx => ⟨Nat.lt_of_lt_of_le (h.av k hx).1 h3.size, fun hf => ?_, (h.av k hx).2.2⟩⟩, h3.size, fun k hx => h3.block k (h.av k hx).1 (h.av k hx).2.1⟩
  rcases h2 k hf with e | e
  · exact (h.av k hx).2.1 e
  · have := (h.av k hx).1
    omega
theorem TwF.ref_act (h : TwF w0 w X p q n L F rp rq rs Z G) (h1 : RefF w' rp rq rs n Z' G') (h2 : Grew w G G') (h3 : Untouched G w w') : TwN w0 w' X p q n L rp rq rs Z' ∧ KeepX X w w' := by
  have hG : ∀ k ∈ F, k ∉ G' := fun k hk hg => by
    rcases h2 k hg with e | e
    · exact h.dj k hk e
    · have := h.net.net.hF k hk
      omega
  have hGi : ∀ k ∈ G', w0.heap.size ≤ k := fun k hk => by
    rcases h2 k hk with e | e
    · exact h.hi k e
    · exact Nat.le_trans h.net.un.size e
  refine ⟨⟨F, G', ⟨h.net.net.keep h3 h.dj, h.net.un.trans (h3.below h.hi h.net.un.size), h.net.hi⟩, h1, hGi, hG, fun k hx => ⟨Nat.lt_of_lt_of_le (h.av k hx).1 h3.size, (h.av k hx).2.1, fun hf => ?_⟩⟩, h3.size, fun k hx => h3.block k (h.av k hx).1 (h.av k hx).2.2⟩
  rcases h2 k hf with e | e
  · exact (h.av k hx).2.2 e
  · have := (h.av k hx).1
    omega
/-- Only blocks of Y, and new ones, have turned. -/
theorem TwN.other (h : TwN w0 w X p q n L rp rq rs Z) (H : List Nat) (hH : ∀ k ∈ H, X k) (h0 : ∀ k ∈ H, w0.heap.size ≤ k) (hu : Untouched H w w') : TwN w0 w' X p q n L rp rq rs Z := by
  obtain ⟨F, G, h⟩ := h
  refine ⟨F, G, ⟨h.net.net.keep hu (fun k hk hh => (h.av k (hH k hh)).2.1 hk), h.net.un.trans (hu.below h0 h.net.un.size), h.net.hi⟩, h.ref.keep hu (fun k hk hh => (h.av k (hH k hh)).2.2 hk), h.hi, h.dj, fun k hx => ⟨Nat.lt_of_lt_of_le (h.av k hx).1 hu.size, (h.av k hx).2⟩⟩
theorem TwN.below (h : TwN w0 w X p q n L rp rq rs Z) (hb : Below w.heap.size w w') : TwN w0 w' X p q n L rp rq rs Z := h.other [] (fun k hk => by cases hk) (fun k hk => by cases hk) (Untouched.of_below hb)
/-- New blocks may be avoided; others needn't any longer. -/
theorem TwN.avoid (h : TwN w0 w X p q n L rp rq rs Z) (hb : Below w.heap.size w w') (hY : ∀ k, Y k → k < w'.heap.size ∧ (X k ∨ w.heap.size ≤ k)) : TwN w0 w' Y p q n L rp rq rs Z := by
  obtain ⟨F, G, h'⟩ := h.below hb
  obtain ⟨F0, G0, h0⟩ := h
  refine ⟨F0, G0, ⟨⟨h0.net.net.below hb, h0.net.un.trans (hb.mono h0.net.un.size), h0.net.hi⟩, h0.ref.below hb, h0.hi, h0.dj, fun k hy => ⟨(hY k hy).1, ?_⟩⟩⟩
  rcases (hY k hy).2 with e | e
  · exact (h0.av k e).2
  · refine ⟨fun hk => ?_, fun hk => ?_⟩
    · have := h0.net.net.hF k hk
      omega
    · have := h0.ref.hF k hk
      omega
theorem TwN.un (h : TwN w0 w X p q n L rp rq rs Z) : Below w0.heap.size w0 w := by
  obtain ⟨F, G, h⟩ := h
  exact h.net.un
theorem TwN.start {w1 : World} (h : NetI w0 w p q n L F) (hr : RefF w1 rp rq rs n Z G) (hG : ∀ k ∈ G, w.heap.size ≤ k) (hb : Below w.heap.size w w1) : TwN w0 w1 (fun _ => False) p q n L rp rq rs Z :=
  ⟨F, G, ⟨h.net.below hb, h.un.trans (hb.mono h.un.size), h.hi⟩, hr, fun k hk => Nat.le_trans h.un.size (hG k hk), fun k hk hg => by have := h.net.hF k hk; have := hG k hg; omega, fun _ hx => hx.elim⟩
/-! The net's acts. -/
theorem two_send (h : TwN w0 w X p q n L rp rq rs Z) (k : Nat) (hk : k < n) (A0 : Option Addr) (n0 c0 : Nat) (m : List UInt8) (hn0 : m.length = n0) (hr : Rd w w.heap.size A0 m) (hn7 : n0 ≤ 140737488355328) :
    Calls Try.prog 10 #[.pointer (some ⟨p, 0, none⟩), .int .i64 (k : Int), .slice A0 n0 c0] w fun e w' => e = .returned (.int .i64 (addE L k)) ∧ TwN w0 w' X p q n (addL L k m) rp rq rs Z ∧ KeepX X w w' := by
  obtain ⟨F, G, h⟩ := h
  exact (send_yes h.net.net k hk A0 n0 c0 m hn0 hr hn7).mono fun e w' ⟨he, F', h1, h2, h3⟩ => ⟨he, h.net_act h1 h2 h3⟩
theorem two_copy (h : TwN w0 w X p q n L rp rq rs Z) (k : Nat) (hk : k < n) (i : Nat) (hi : i < (L.getD (k * 2) []).length) (hl6 : (L.getD (k * 2) []).length ≤ 1000000) :
    Calls Try.prog 11 #[.pointer (some ⟨p, 0, none⟩), .int .i64 (k : Int), .int .i64 (i : Int)] w fun e w' => e = .returned (.int .i64 (addE L k)) ∧ TwN w0 w' X p q n (addL L k ((L.getD (k * 2) []).getD i [])) rp rq rs Z ∧ KeepX X w w' := by
  obtain ⟨F, G, h⟩ := h
  exact (copy_yes h.net.net k hk i hi hl6).mono fun e w' ⟨he, F', h1, h2, h3⟩ => ⟨he, h.net_act h1 h2 h3⟩
theorem two_clear (h : TwN w0 w X p q n L rp rq rs Z) (k : Nat) (hk : k < n) :
    Calls Try.prog 8 #[.pointer (some ⟨p, 0, none⟩), .int .i64 (k : Int)] w fun e w' => e = .returned (.tuple #[]) ∧ TwN w0 w' X p q n (L.set (k * 2) []) rp rq rs Z ∧ KeepX X w w' := by
  obtain ⟨F, G, h⟩ := h
  exact (clear_yes h.net.net k hk).mono fun e w' ⟨he, h1, h2⟩ => ⟨he, h.net_act h1 (Grew.refl _ _) h2⟩
theorem two_take (h : TwN w0 w X p q n L rp rq rs Z) (k : Nat) (hk : k < n) (i : Nat) (hi : i < (L.getD (k * 2) []).length) (hl6 : (L.getD (k * 2) []).length ≤ 1000000) (ht6 : (L.getD (k * 2 + 1) []).length + 1 ≤ 1000000) (r : Nat) (hr0 : ((L.getD (k * 2) []).getD i []).length = r) (hr7 : r ≤ 140737488355328) :
    Calls Try.prog 7 #[.pointer (some ⟨p, 0, none⟩), .int .i64 (k : Int), .int .i64 (i : Int)] w fun e w' => ∃ A c, e = .returned (.tuple #[.slice A r c, .int .i64 0]) ∧ TwN w0 w' (fun b => X b ∨ BytesAt A r b) p q n (takeL L k i) rp rq rs Z ∧ KeepX X w w' ∧ Own8 w' w.heap.size (.slice A r c) ((L.getD (k * 2) []).getD i []) := by
  obtain ⟨F, G, h⟩ := h
  refine (take_yes h.net.net k hk i hi hl6 ht6 r hr0 hr7).mono fun e w' ⟨A, c, F', he, ho, hrd, h1, h2, h3⟩ => ⟨A, c, he, ?_, (h.net_act h1 h2 h3).2, ho⟩
  have hG : ∀ k ∈ F', k ∉ G := fun k hk hg => by
    rcases h2 k hk with e | e
    · exact h.dj k e hg
    · have := h.ref.hF k hg
      omega
  refine ⟨F', G, ⟨h.net.act h1 h2 h3, h.ref.keep h3 (fun k hk hf => h.dj k hf hk), h.hi, hG, fun b hx => ?_⟩⟩
  rcases hx with hx | hx
  · refine ⟨Nat.lt_of_lt_of_le (h.av b hx).1 h3.size, fun hf => ?_, (h.av b hx).2.2⟩
    rcases h2 b hf with e | e
    · exact (h.av b hx).2.1 e
    · have := (h.av b hx).1
      omega
  · obtain ⟨h0, o, e⟩ := hx
    obtain ⟨b', o', e', hnf, hlt, _⟩ := hrd (by rw [hr0]; exact h0)
    rw [e] at e'
    injection e' with e'
    injection e' with e1 e2
    subst e1
    have hbl := (World.ownsRow.lt ho b (by rw [e]; rfl)).1
    exact ⟨hlt, hnf, fun hg => by have := h.ref.hF b hg; omega⟩
theorem Rd.keepX {A : Option Addr} {m : List UInt8} {r : Nat} (h : Rd w w.heap.size A m) (hr : m.length = r) (hk : KeepX X w w') (hX : ∀ b, BytesAt A r b → X b) : Rd w' w'.heap.size A m := fun h0 => by
  obtain ⟨b, off, e, hlt, hc⟩ := h h0
  have hb := hk.2 b (hX b ⟨by omega, off, e⟩)
  exact ⟨b, off, e, Nat.lt_of_lt_of_le hlt hk.1, fun j hj => (World.cell?_of_block (show w'.heap[(⟨b, off + j, none⟩ : Addr).block]? = w.heap[(⟨b, off + j, none⟩ : Addr).block]? from hb)).trans (hc j hj)⟩
/-! The reference's acts. -/
theorem two_rsend (h : TwN w0 w X p q n L rp rq rs Z) (k : Nat) (hk : k < n) (m : List UInt8) :
    Calls Try.prog 16 #[.pointer (some ⟨rp, 0, none⟩), .int .i64 (k : Int), .string (strOf m)] w fun e w' => e = .returned (.int .i64 (sendE Z k)) ∧ TwN w0 w' X p q n L rp rq rs (sendZ Z k m) ∧ KeepX X w w' := by
  obtain ⟨F, G, h⟩ := h
  exact (rsend_yes h.ref k hk m).mono fun e w' ⟨he, F', h1, h2, h3⟩ => ⟨he, h.ref_act h1 h2 h3⟩
theorem two_rcopy (h : TwN w0 w X p q n L rp rq rs Z) (k : Nat) (hk : k < n) (i : Nat) (hi : i < (Z.getD k []).length) :
    Calls Try.prog 18 #[.pointer (some ⟨rp, 0, none⟩), .int .i64 (k : Int), .int .i64 (i : Int)] w fun e w' => e = .returned (.int .i64 (sendE Z k)) ∧ TwN w0 w' X p q n L rp rq rs (sendZ Z k ((Z.getD k []).getD i [])) ∧ KeepX X w w' := by
  obtain ⟨F, G, h⟩ := h
  exact (rcopy_yes h.ref k hk i hi).mono fun e w' ⟨he, F', h1, h2, h3⟩ => ⟨he, h.ref_act h1 h2 h3⟩
/-- What a message that was taken leaves of the reference's rows. -/
def takeZ (Z : List (List (List UInt8))) (n k i : Nat) : List (List (List UInt8)) := (Z.set k ((Z.getD k []).eraseIdx i)).set (n + k) (Z.getD (n + k) [] ++ [(Z.getD k []).getD i []])
theorem two_rtake (h : TwN w0 w X p q n L rp rq rs Z) (k : Nat) (hk : k < n) (i : Nat) (hi : i < (Z.getD k []).length) (hl6 : (Z.getD k []).length ≤ 1000000) (ht6 : (Z.getD (n + k) []).length + 1 ≤ 1000000) :
    Calls Try.prog 17 #[.pointer (some ⟨rp, 0, none⟩), .int .i64 (k : Int), .int .i64 (i : Int)] w fun e w' => e = .returned (.tuple #[.string (strOf ((Z.getD k []).getD i [])), .int .i64 0]) ∧ TwN w0 w' X p q n L rp rq rs (takeZ Z n k i) ∧ KeepX X w w' := by
  obtain ⟨F, G, h⟩ := h
  have e0 : Z.getD k [] = (Z.getD k []).take i ++ (Z.getD k []).getD i [] :: (Z.getD k []).drop (i + 1) := by
    have h1 : (Z.getD k []).getD i [] = (Z.getD k [])[i] := by rw [List.getD_eq_getElem?_getD, List.getElem?_eq_getElem hi]; rfl
    rw [h1, List.getElem_cons_drop, List.take_append_drop]
  have hlen : ((Z.getD k []).take i).length = i := by rw [List.length_take]; omega
  have c := rtake_yes h.ref k hk _ _ _ e0 hl6 ht6
  rw [hlen] at c
  refine c.mono fun e w' ⟨he, F', h1, h2, h3⟩ => ⟨he, ?_⟩
  unfold takeZ
  rw [List.eraseIdx_eq_take_drop_succ]
  exact h.ref_act h1 h2 h3
end
end Go.Proofs.Ytdkemjipbkanoaa
