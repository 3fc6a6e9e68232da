/-
  What puts a message's parts: done; a message of the program's in memory; how far Write has come.
-/
import Derived.Test.YtnlipmcnpekifaaMoe
namespace Go.Proofs.Ytnlipmcnpekifaa
set_option maxRecDepth 100000
open Go.RowKit
set_option linter.unusedVariables false
set_option linter.unusedSimpArgs false

set_option maxRecDepth 100000 in
set_option maxHeartbeats 2000000 in
theorem done_yes (w : World) (g : Nat) (l : List UInt8) (n b : Nat) (F : List Nat) (h : MoF w g (some l) b F) (hn : l.length = n) (hb : b ≤ 140737488355328) :
    Calls Try.prog 24 #[.pointer (some ⟨g, 0, none⟩)] w fun e w' => ∃ A c, e = .returned (.tuple #[.slice A n c, .int .i64 0]) ∧ Own8 w' w.heap.size (.slice A n c) l ∧ Below w.heap.size w w' := by
  obtain ⟨l', wr, hO, hl, hst⟩ := h
  obtain ⟨rfl, rfl⟩ : l' = l ∧ wr = false := by rcases hst with ⟨h, h2⟩ | ⟨h, _⟩; injection h with h; exact ⟨h.symm, h2⟩; cases h
  have cd := done_any w g n l' false false F hO hn (by omega)
  have hlt := hO.inw
  have HC := hidm_ hO.wr_.1
  clear hO hst hn
  go_enter Try.func24, Try.ntmps24
  go_wp2_with (go_at_call 53; ((with_reducible refine cd.mono ?_); clear cd; rintro e w2 ⟨A, c, rfl, h1, h2⟩; have H1 := hidm_ h1; have H2 := hidm_ h2; have hc2 := (h2.cell (p := ⟨g, 3, none⟩) hlt).trans HC.out; simp only [Bool.false_eq_true, if_false]; clear h1 h2))
  go_ret2
  exact ⟨A, c, rfl, H1.out, H2.out⟩
set_option maxRecDepth 100000 in
set_option maxHeartbeats 2000000 in
theorem done_no (w : World) (g b : Nat) (F : List Nat) (h : MoF w g none b F) (hb : b ≤ 140737488355328) :
    Calls Try.prog 24 #[.pointer (some ⟨g, 0, none⟩)] w fun e w' => e = .returned (.tuple #[.slice none 0 0, .int .i64 2]) ∧ Below w.heap.size w w' := by
  obtain ⟨l', wr, hO, hl, hst⟩ := h
  obtain rfl : wr = true := by rcases hst with ⟨h, h2⟩ | ⟨_, h⟩; cases h; exact h
  have cd := done_any w g l'.length l' false true F hO rfl (by omega)
  have hlt := hO.inw
  have HC := hidm_ hO.wr_.1
  obtain ⟨n, hn⟩ : ∃ n, l'.length = n := ⟨_, rfl⟩
  rw [hn] at cd
  clear hO hst hn
  go_enter Try.func24, Try.ntmps24
  go_wp2_with (go_at_call 53; ((with_reducible refine cd.mono ?_); clear cd; rintro e w2 ⟨A, c, rfl, h1, h2⟩; have H2 := hidm_ h2; have hc2 := (h2.cell (p := ⟨g, 3, none⟩) hlt).trans HC.out; simp only [Bool.false_eq_true, if_false]; clear h1 h2))
  go_ret2
  exact ⟨rfl, H2.out⟩
/-- A message of the program's: its values, and where its slices lie. -/
structure MgA where
  kind : Int
  frm : Int
  ask : Int
  err : Int
  for_ : Int
  level : Int
  row : KrA
  ats : List Int
  aa : Option Addr
  ac : Nat
  digs : List (List UInt8)
  da : Option Addr
  dc : Nat
  rows : List KrA
  ra : Option Addr
  rc : Nat
instance : Inhabited MgA := ⟨⟨0, 0, 0, 0, 0, 0, default, [], none, 0, [], none, 0, [], none, 0⟩⟩
def MgA.v (q : MgA) : MgV := ⟨q.kind, q.frm, q.ask, q.err, q.for_, q.level, q.row.r, q.ats, q.digs, q.rows.map (·.r)⟩
def mgC (q : MgA) : List Value := [.int .i64 q.kind, .int .i64 q.frm, .int .i64 q.ask, .int .i64 q.err, .int .i64 q.for_, .int .i64 q.level] ++ (krC q.row ++ [.slice q.aa q.ats.length q.ac, .slice q.da q.digs.length q.dc, .slice q.ra q.rows.length q.rc])
theorem mgC_len (q : MgA) (h : q.row.r.key.length = 32) : (mgC q).length = 42 := by simp [mgC, krC_len _ h]
theorem mgC_row (q : MgA) (h : q.row.r.key.length = 32) (j : Nat) (hj : j < 33) : (mgC q).toArray[6 + j]? = (krC q.row).toArray[j]? := by
  rw [List.getElem?_toArray, List.getElem?_toArray, mgC, List.getElem?_append_right (by simp), List.getElem?_append_left (by rw [krC_len _ h]; simp; omega)]
  congr 1
  simp
theorem mgC_hi (q : MgA) (h : q.row.r.key.length = 32) (j : Nat) : (mgC q).toArray[39 + j]? = ([.slice q.aa q.ats.length q.ac, .slice q.da q.digs.length q.dc, .slice q.ra q.rows.length q.rc] : List Value)[j]? := by
  rw [List.getElem?_toArray, mgC, List.getElem?_append_right (by simp; omega), List.getElem?_append_right (by rw [krC_len _ h]; simp; omega)]
  congr 1
  rw [krC_len _ h]
  simp
  omega
/-- What is known of it: its memory lies below B. -/
structure MgA.Ok (w : World) (B : Nat) (q : MgA) : Prop where
  row : q.row.Ok w B
  ats : RdG intE w B q.aa q.ats
  ac : q.ats.length ≤ q.ac ∧ q.ac ≤ 9223372036854775807
  digs : RdG digE w B q.da q.digs
  dc : q.digs.length ≤ q.dc ∧ q.dc ≤ 9223372036854775807
  d32 : ∀ d ∈ q.digs, d.length = 32
  rows : RdG krE w B q.ra q.rows
  rc : q.rows.length ≤ q.rc ∧ q.rc ≤ 9223372036854775807
  rok : ∀ r ∈ q.rows, r.Ok w B
theorem MgA.Ok.below {w w' : World} {B : Nat} {q : MgA} (h : q.Ok w B) (hb : Below B w w') : q.Ok w' B := ⟨h.row.below hb, h.ats.below hb, h.ac, h.digs.below hb, h.dc, h.d32, h.rows.below hb, h.rc, fun r hr => (h.rok r hr).below hb⟩
theorem MgA.Ok.more {w : World} {B C : Nat} {q : MgA} (h : q.Ok w B) (hB : B ≤ C) : q.Ok w C := ⟨h.row.more hB, h.ats.more hB, h.ac, h.digs.more hB, h.dc, h.d32, h.rows.more hB, h.rc, fun r hr => (h.rok r hr).more hB⟩
theorem MgA.Ok.k32 {w : World} {B : Nat} {q : MgA} (h : q.Ok w B) : K32 q.v := ⟨h.row.key, h.d32, fun r hr => by
  obtain ⟨x, hx, rfl⟩ := List.mem_map.1 hr
  exact (h.rok x hx).key⟩
/-- What Write has put when a message's kind is told. -/
def hdS (m : MgV) : Option (List UInt8) := nuP m.ask 4611686018427387904 (smP m.frm 8 (smP m.kind 7 (some [])))
def bdS (m : MgV) (st : Option (List UInt8)) : Option (List UInt8) :=
  if m.kind = 1 ∨ m.kind = 4 then krP m.row st
  else if m.kind = 2 then smP m.err 255 st
  else if m.kind = 3 then fxP m.row.key st
  else if m.kind = 5 then krP m.row (smP m.for_ 7 st)
  else if m.kind = 6 then foldP fxP m.digs (smP (m.digs.length : Int) 255 (foldP (fun z => nuP z 255) m.ats (smP (m.ats.length : Int) 255 (smP m.level 4 st))))
  else if m.kind = 7 then foldP (fun r => krP r) m.rows (smP (m.rows.length : Int) 255 (foldP (fun z => nuP z 255) m.ats (smP (m.ats.length : Int) 255 st)))
  else none
theorem foldP_map {α β : Type} (f : β → Option (List UInt8) → Option (List UInt8)) (g : α → β) (l : List α) (st : Option (List UInt8)) : foldP f (l.map g) st = foldP (fun x => f (g x)) l st := by
  unfold foldP
  rw [List.foldl_map]
theorem smP_some {n most : Int} {st : Option (List UInt8)} {r : List UInt8} : smP n most st = some r ↔ ∃ l, st = some l ∧ (0 ≤ n ∧ n ≤ most) ∧ r = l ++ smallL n := by
  cases st with
  | none => simp [smP]
  | some l =>
    show (if 0 ≤ n ∧ n ≤ most then some (l ++ smallL n) else none) = some r ↔ _
    split <;> simp_all [eq_comm] <;> (intros; omega)
theorem nuP_some {n most : Int} {st : Option (List UInt8)} {r : List UInt8} : nuP n most st = some r ↔ ∃ l, st = some l ∧ (0 ≤ n ∧ n ≤ most) ∧ r = l ++ numL n := by
  cases st with
  | none => simp [nuP]
  | some l =>
    show (if 0 ≤ n ∧ n ≤ most then some (l ++ numL n) else none) = some r ↔ _
    split <;> simp_all [eq_comm] <;> (intros; omega)
theorem fxP_some {m : List UInt8} {st : Option (List UInt8)} {r : List UInt8} : fxP m st = some r ↔ ∃ l, st = some l ∧ True ∧ r = l ++ m := by
  cases st with
  | none => simp [fxP]
  | some l =>
    show some (l ++ m) = some r ↔ _
    simp [eq_comm]
theorem krP_some {q : KrV} {st : Option (List UInt8)} {r : List UInt8} : krP q st = some r ↔ ∃ l, st = some l ∧ q.set.length ≤ 1048576 ∧ r = l ++ krB q := by
  cases st with
  | none => simp [krP]
  | some l =>
    show (if q.set.length ≤ 1048576 then some (l ++ krB q) else none) = some r ↔ _
    split <;> simp_all [eq_comm] <;> (intros; omega)
theorem foldP_some {β : Type} {f : β → Option (List UInt8) → Option (List UInt8)} {P : β → Prop} {g : β → List UInt8} (hf : ∀ x st r, f x st = some r ↔ ∃ l, st = some l ∧ P x ∧ r = l ++ g x) :
    ∀ (b : List β) (st : Option (List UInt8)) (r : List UInt8), foldP f b st = some r ↔ ∃ l, st = some l ∧ (∀ x ∈ b, P x) ∧ r = l ++ b.flatMap g
  | [], st, r => by simp [foldP, eq_comm]
  | x :: b, st, r => by
    show foldP f b (f x st) = some r ↔ _
    rw [foldP_some hf b (f x st) r]
    constructor
    · rintro ⟨l, h1, h2, rfl⟩
      obtain ⟨l0, rfl, h3, rfl⟩ := (hf x st l).1 h1
      exact ⟨l0, rfl, fun y hy => by rcases List.mem_cons.1 hy with rfl | hy; exact h3; exact h2 y hy, by simp⟩
    · rintro ⟨l, rfl, h2, rfl⟩
      exact ⟨l ++ g x, (hf x _ _).2 ⟨l, rfl, h2 x (by simp), rfl⟩, fun y hy => h2 y (by simp [hy]), by simp⟩
theorem bdS_some {m : MgV} {st : Option (List UInt8)} {r : List UInt8} : bdS m st = some r ↔ ∃ l, st = some l ∧ BodyOk m ∧ r = l ++ bodyB m := by
  unfold bdS BodyOk bodyB
  split
  · exact krP_some
  · split
    · exact smP_some
    · split
      · exact fxP_some
      · split
        · rw [krP_some]
          simp only [smP_some]
          constructor
          · rintro ⟨l, ⟨l0, rfl, h1, rfl⟩, h2, rfl⟩
            exact ⟨l0, rfl, ⟨h1, h2⟩, by rw [List.append_assoc]⟩
          · rintro ⟨l, rfl, ⟨h1, h2⟩, rfl⟩
            exact ⟨_, ⟨l, rfl, h1, rfl⟩, h2, by rw [List.append_assoc]⟩
        · split
          · rw [foldP_some (f := fxP) (P := fun _ => True) (g := id) (fun x st r => fxP_some)]
            simp only [smP_some, foldP_some (P := fun z : Int => 0 ≤ z ∧ z ≤ 255) (g := numL) (fun x st r => nuP_some)]
            constructor
            · rintro ⟨l, ⟨l0, ⟨l1, ⟨l2, ⟨l3, rfl, h1, rfl⟩, h2, rfl⟩, h3, rfl⟩, h4, rfl⟩, h5, rfl⟩
              exact ⟨l3, rfl, ⟨h1, ⟨by omega, h3⟩, by omega⟩, by unfold cntB; simp only [List.append_assoc]⟩
            · rintro ⟨l, rfl, ⟨h1, ⟨h2, h3⟩, h4⟩, rfl⟩
              exact ⟨_, ⟨_, ⟨_, ⟨_, ⟨l, rfl, h1, rfl⟩, by omega, rfl⟩, h3, rfl⟩, by omega, rfl⟩, fun _ _ => trivial, by unfold cntB; simp only [List.append_assoc]⟩
          · split
            · rw [foldP_some (P := fun r : KrV => r.set.length ≤ 1048576) (g := krB) (fun x st r => krP_some)]
              simp only [smP_some, foldP_some (P := fun z : Int => 0 ≤ z ∧ z ≤ 255) (g := numL) (fun x st r => nuP_some)]
              constructor
              · rintro ⟨l, ⟨l0, ⟨l1, ⟨l2, rfl, h1, rfl⟩, h2, rfl⟩, h3, rfl⟩, h4, rfl⟩
                exact ⟨l2, rfl, ⟨⟨by omega, h2⟩, by omega, h4⟩, by unfold cntB; simp only [List.append_assoc]⟩
              · rintro ⟨l, rfl, ⟨⟨h1, h2⟩, h3, h4⟩, rfl⟩
                exact ⟨_, ⟨_, ⟨_, ⟨l, rfl, by omega, rfl⟩, h2, rfl⟩, by omega, rfl⟩, h4, by unfold cntB; simp only [List.append_assoc]⟩
            · simp
theorem hdS_some {m : MgV} {r : List UInt8} : hdS m = some r ↔ (0 ≤ m.kind ∧ m.kind ≤ 7) ∧ (0 ≤ m.frm ∧ m.frm ≤ 8) ∧ (0 ≤ m.ask ∧ m.ask ≤ 4611686018427387904) ∧ r = smallL m.kind ++ (smallL m.frm ++ numL m.ask) := by
  unfold hdS
  simp only [nuP_some, smP_some]
  constructor
  · rintro ⟨l, ⟨l0, ⟨l1, h0, h1, rfl⟩, h2, rfl⟩, h3, rfl⟩
    injection h0 with h0
    subst h0
    exact ⟨h1, h2, h3, by simp⟩
  · rintro ⟨h1, h2, h3, rfl⟩
    exact ⟨_, ⟨_, ⟨[], rfl, h1, rfl⟩, h2, rfl⟩, h3, by simp⟩
theorem wrS_some {m : MgV} {r : List UInt8} : bdS m (hdS m) = some r ↔ MgOk m ∧ r = mgB m := by
  rw [bdS_some]
  constructor
  · rintro ⟨l, h1, h2, rfl⟩
    obtain ⟨a, b, c, rfl⟩ := hdS_some.1 h1
    refine ⟨⟨⟨?_, a.2⟩, b, c, h2⟩, by unfold mgB; simp only [List.append_assoc]⟩
    rcases (by omega : m.kind = 0 ∨ 1 ≤ m.kind) with e | e
    · exfalso
      unfold BodyOk at h2
      simp [e] at h2
    · exact e
  · rintro ⟨⟨a, b, c, d⟩, rfl⟩
    exact ⟨_, hdS_some.2 ⟨⟨by omega, a.2⟩, b, c, rfl⟩, d, by unfold mgB; simp only [List.append_assoc]⟩
theorem wrS_none {m : MgV} (h : ¬ MgOk m) : bdS m (hdS m) = none := by
  cases e : bdS m (hdS m) with
  | none => rfl
  | some r => exact absurd (wrS_some.1 e).1 h
/-- How far Write has come. -/
def MwS (w2 : World) (g : Nat) (st : Option (List UInt8)) (b : Nat) (W : World) : Prop := ∃ F, MoF W g st b F ∧ Grew w2 [g] F ∧ Untouched [g] w2 W
section
variable {w2 W : World} {g : Nat} {st : Option (List UInt8)} {b : Nat}
theorem MwS.step {F : List Nat} (h : Grew w2 [g] F ∧ Untouched [g] w2 W) {e : Ending} {W' : World} {st' : Option (List UInt8)} {b' : Nat} (hp : MoP W g st' b' F e W') : e = .returned (.tuple #[]) ∧ MwS w2 g st' b' W' := by
  obtain ⟨he, F', h1, h2, h3⟩ := hp
  exact ⟨he, F', h1, h.1.trans h.2.size h2, h.2.trans h.1 h3⟩
theorem mw_small (h : MwS w2 g st b W) (n most : Int) (hm : most ≤ 255) (hb : b + 1 ≤ 140737488355328) : Calls Try.prog 16 #[.pointer (some ⟨g, 0, none⟩), .int .i64 n, .int .i64 most] W fun e w' => e = .returned (.tuple #[]) ∧ MwS w2 g (smP n most st) (b + 1) w' := by
  obtain ⟨F, h1, h2⟩ := h
  exact (small_m W g st b F n most h1 hm hb).mono fun e w' hp => MwS.step h2 hp
theorem mw_num (h : MwS w2 g st b W) (n most : Int) (hm : most ≤ 9223372036854775807) (hb : b + 8 ≤ 140737488355328) : Calls Try.prog 17 #[.pointer (some ⟨g, 0, none⟩), .int .i64 n, .int .i64 most] W fun e w' => e = .returned (.tuple #[]) ∧ MwS w2 g (nuP n most st) (b + 8) w' := by
  obtain ⟨F, h1, h2⟩ := h
  exact (num_m W g st b F n most h1 hm hb).mono fun e w' hp => MwS.step h2 hp
theorem mw_fixed (h : MwS w2 g st b W) (K : List UInt8) (hK : K.length = 32) (hb : b + 32 ≤ 140737488355328) : Calls Try.prog 19 #[.pointer (some ⟨g, 0, none⟩), .agg (rowOf K)] W fun e w' => e = .returned (.tuple #[]) ∧ MwS w2 g (fxP K st) (b + 32) w' := by
  obtain ⟨F, h1, h2⟩ := h
  exact (fixed_m W g st b F K hK h1 hb).mono fun e w' hp => MwS.step h2 hp
theorem mw_row (h : MwS w2 g st b W) (q : KrA) (hK : q.r.key.length = 32) (hr : RdF w2 [g] q.sa q.r.set) (hs : q.r.set.length ≤ 1000000000) (hb : b + 36 + q.r.set.length ≤ 140737488355328) : Calls Try.prog 18 #[.pointer (some ⟨g, 0, none⟩), .agg (krC q).toArray] W fun e w' => e = .returned (.tuple #[]) ∧ MwS w2 g (krP q.r st) (b + 36 + q.r.set.length) w' := by
  obtain ⟨F, h1, h2⟩ := h
  exact (row_m W g st b F q hK (hr.keep h2.2 h2.1) h1 hs hb).mono fun e w' hp => MwS.step h2 hp
theorem mw_ats (h : MwS w2 g st b W) (A : Option Addr) (n c : Nat) (l : List Int) (hn : l.length = n) (hr : RdGF intE w2 [g] A l) (hl : n ≤ 100000) (hb : b ≤ 1000000000) : Calls Try.prog 20 #[.pointer (some ⟨g, 0, none⟩), .slice A n c, .func (.func 21) #[.pointer (some ⟨g, 0, none⟩)] #[]] W fun e w' => e = .returned (.tuple #[]) ∧ MwS w2 g (foldP (fun z => nuP z 255) l (smP (n : Int) 255 st)) (b + 1 + 8 * n) w' := by
  obtain ⟨F, h1, h2⟩ := h
  exact (puts_at W g st b F A n c l hn (hr.keep h2.2 h2.1) h1 hl hb).mono fun e w' hp => MwS.step h2 hp
theorem mw_digs (h : MwS w2 g st b W) (A : Option Addr) (n c : Nat) (l : List (List UInt8)) (hn : l.length = n) (hr : RdGF digE w2 [g] A l) (h32 : ∀ x ∈ l, x.length = 32) (hl : n ≤ 100000) (hb : b ≤ 1000000000) : Calls Try.prog 22 #[.pointer (some ⟨g, 0, none⟩), .slice A n c, .func (.func 19) #[.pointer (some ⟨g, 0, none⟩)] #[]] W fun e w' => e = .returned (.tuple #[]) ∧ MwS w2 g (foldP fxP l (smP (n : Int) 255 st)) (b + 1 + 32 * n) w' := by
  obtain ⟨F, h1, h2⟩ := h
  exact (puts_dig W g st b F A n c l hn (hr.keep h2.2 h2.1) h32 h1 hl hb).mono fun e w' hp => MwS.step h2 hp
theorem mw_rows (h : MwS w2 g st b W) (A : Option Addr) (n c : Nat) (l : List KrA) (hn : l.length = n) (hr : RdGF krE w2 [g] A l) (h32 : ∀ q ∈ l, q.r.key.length = 32 ∧ RdF w2 [g] q.sa q.r.set ∧ q.r.set.length ≤ 1048576) (hl : n ≤ 100000) (hb : b ≤ 1000000000) : Calls Try.prog 23 #[.pointer (some ⟨g, 0, none⟩), .slice A n c, .func (.func 18) #[.pointer (some ⟨g, 0, none⟩)] #[]] W fun e w' => e = .returned (.tuple #[]) ∧ MwS w2 g (foldP (fun q : KrA => krP q.r) l (smP (n : Int) 255 st)) (b + 1 + 1048612 * n) w' := by
  obtain ⟨F, h1, h2⟩ := h
  exact (puts_row W g st b F A n c l hn (hr.keep h2.2 h2.1) (fun q hq => ⟨(h32 q hq).1, (h32 q hq).2.1.keep h2.2 h2.1, (h32 q hq).2.2⟩) h1 hl hb).mono fun e w' hp => MwS.step h2 hp
end
end Go.Proofs.Ytnlipmcnpekifaa
