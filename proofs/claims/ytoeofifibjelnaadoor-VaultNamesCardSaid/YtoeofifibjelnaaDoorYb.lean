/-
  What lies behind a vault's pointer; made, Count, Ideal; the vaults that are made.
-/
import Derived.Test.YtoeofifibjelnaaDoorYa
import Derived.Test.YtoeofifibjelnaaDoorUn
import Derived.LaidEqlPtr
namespace Go.Proofs.YtoeofifibjelnaaDoor
set_option maxRecDepth 100000
open Go.RowKit Go.Maps
set_option linter.unusedVariables false
set_option linter.unusedSimpArgs false

theorem hidyb_ {p : Prop} (h : p) : Hid p := h
/-- The struct's cells. -/
def vrow (id : Bool) (K : List UInt8) (sp nm kn : Option Nat) : Array Value := (Value.bool id :: ((K.map fun b => Value.int .u8 (b.toNat : Int)) ++ [.map sp, .map nm, .map kn])).toArray
theorem vrow_size (id : Bool) (K : List UInt8) (hK : K.length = 32) (sp nm kn : Option Nat) : (vrow id K sp nm kn).size = 36 := by simp [vrow, hK]
theorem vrow_0 (id : Bool) (K : List UInt8) (sp nm kn : Option Nat) : (vrow id K sp nm kn)[0]? = some (.bool id) := by simp [vrow]
theorem vrow_k (id : Bool) (K : List UInt8) (hK : K.length = 32) (sp nm kn : Option Nat) (j : Nat) (hj : j < 32) : (vrow id K sp nm kn)[1 + j]? = (rowOf K)[j]? := by
  have h : j < (K.map fun b => Value.int .u8 (b.toNat : Int)).length := by simp [hK, hj]
  simp only [vrow, rowOf, List.getElem?_toArray]
  rw [Nat.add_comm, List.getElem?_cons_succ, List.getElem?_append_left h]
theorem vrow_33 (id : Bool) (K : List UInt8) (hK : K.length = 32) (sp nm kn : Option Nat) : (vrow id K sp nm kn)[33]? = some (.map sp) := by
  simp only [vrow, List.getElem?_toArray]
  rw [show 33 = 32 + 1 from rfl, List.getElem?_cons_succ, List.getElem?_append_right (by simp [hK])]
  simp [hK]
theorem vrow_34 (id : Bool) (K : List UInt8) (hK : K.length = 32) (sp nm kn : Option Nat) : (vrow id K sp nm kn)[34]? = some (.map nm) := by
  simp only [vrow, List.getElem?_toArray]
  rw [show 34 = 33 + 1 from rfl, List.getElem?_cons_succ, List.getElem?_append_right (by simp [hK])]
  simp [hK]
theorem vrow_35 (id : Bool) (K : List UInt8) (hK : K.length = 32) (sp nm kn : Option Nat) : (vrow id K sp nm kn)[35]? = some (.map kn) := by
  simp only [vrow, List.getElem?_toArray]
  rw [show 35 = 34 + 1 from rfl, List.getElem?_cons_succ, List.getElem?_append_right (by simp [hK])]
  simp [hK]
set_option maxRecDepth 100000 in
theorem built_v32 (a0 a1 a2 a3 a4 a5 a6 a7 a8 a9 a10 a11 a12 a13 a14 a15 a16 a17 a18 a19 a20 a21 a22 a23 a24 a25 a26 a27 a28 a29 a30 a31 : UInt8) (sp nm kn : Option Nat) :
    Tryd.prog.built 50 [(0, .bool true), (1, .agg (rowOf [a0, a1, a2, a3, a4, a5, a6, a7, a8, a9, a10, a11, a12, a13, a14, a15, a16, a17, a18, a19, a20, a21, a22, a23, a24, a25, a26, a27, a28, a29, a30, a31])), (2, .map sp), (3, .map nm), (4, .map kn)] = some (vrow true [a0, a1, a2, a3, a4, a5, a6, a7, a8, a9, a10, a11, a12, a13, a14, a15, a16, a17, a18, a19, a20, a21, a22, a23, a24, a25, a26, a27, a28, a29, a30, a31] sp nm kn) := by kernel_rfl
set_option maxRecDepth 100000 in
theorem built_r32 (a0 a1 a2 a3 a4 a5 a6 a7 a8 a9 a10 a11 a12 a13 a14 a15 a16 a17 a18 a19 a20 a21 a22 a23 a24 a25 a26 a27 a28 a29 a30 a31 : UInt8) (sp : Option Nat) :
    Tryd.prog.built 50 [(1, .agg (rowOf [a0, a1, a2, a3, a4, a5, a6, a7, a8, a9, a10, a11, a12, a13, a14, a15, a16, a17, a18, a19, a20, a21, a22, a23, a24, a25, a26, a27, a28, a29, a30, a31])), (2, .map sp)] = some (vrow false [a0, a1, a2, a3, a4, a5, a6, a7, a8, a9, a10, a11, a12, a13, a14, a15, a16, a17, a18, a19, a20, a21, a22, a23, a24, a25, a26, a27, a28, a29, a30, a31] sp none none) := by kernel_rfl
theorem built_v (K : List UInt8) (hK : K.length = 32) (sp nm kn : Option Nat) : Tryd.prog.built 50 [(0, .bool true), (1, .agg (rowOf K)), (2, .map sp), (3, .map nm), (4, .map kn)] = some (vrow true K sp nm kn) := by
  match K, hK with
  | [a0, a1, a2, a3, a4, a5, a6, a7, a8, a9, a10, a11, a12, a13, a14, a15, a16, a17, a18, a19, a20, a21, a22, a23, a24, a25, a26, a27, a28, a29, a30, a31], _ => exact built_v32 a0 a1 a2 a3 a4 a5 a6 a7 a8 a9 a10 a11 a12 a13 a14 a15 a16 a17 a18 a19 a20 a21 a22 a23 a24 a25 a26 a27 a28 a29 a30 a31 sp nm kn
theorem built_r (K : List UInt8) (hK : K.length = 32) (sp : Option Nat) : Tryd.prog.built 50 [(1, .agg (rowOf K)), (2, .map sp)] = some (vrow false K sp none none) := by
  match K, hK with
  | [a0, a1, a2, a3, a4, a5, a6, a7, a8, a9, a10, a11, a12, a13, a14, a15, a16, a17, a18, a19, a20, a21, a22, a23, a24, a25, a26, a27, a28, a29, a30, a31], _ => exact built_r32 a0 a1 a2 a3 a4 a5 a6 a7 a8 a9 a10 a11 a12 a13 a14 a15 a16 a17 a18 a19 a20 a21 a22 a23 a24 a25 a26 a27 a28 a29 a30 a31 sp
theorem infoV : (Tryd.prog.info? 50).map (·.size) = some 36 := by kernel_rfl

/-! What the maps tell. -/
open Classical in
noncomputable def fS (S : List (Nat × Nat)) : Value → Option Value := fun x => if ∃ p ∈ S, x = sKey (p.1 : Int) (p.2 : Int) then some (.agg #[]) else none
theorem sKeyN_inj {c n c' n' : Nat} (h : sKey (c : Int) (n : Int) = sKey (c' : Int) (n' : Int)) : c = c' ∧ n = n' := by
  obtain ⟨h1, h2⟩ := sKey_inj h
  exact ⟨by omega, by omega⟩
theorem fS_yes {S : List (Nat × Nat)} {c n : Nat} (h : (c, n) ∈ S) : fS S (sKey (c : Int) (n : Int)) = some (.agg #[]) := by
  unfold fS
  rw [if_pos ⟨_, h, rfl⟩]
theorem fS_no {S : List (Nat × Nat)} {c n : Nat} (h : (c, n) ∉ S) : fS S (sKey (c : Int) (n : Int)) = none := by
  unfold fS
  rw [if_neg]
  rintro ⟨⟨a, b⟩, hp, e⟩
  obtain ⟨rfl, rfl⟩ := sKeyN_inj e
  exact h hp
theorem fS_nil : fS [] = fun _ => none := by
  funext x
  unfold fS
  simp
theorem fS_snoc (S : List (Nat × Nat)) (c n : Nat) : upd (fS S) (sKey (c : Int) (n : Int)) (.agg #[]) = fS (S ++ [(c, n)]) := by
  funext x
  by_cases hx : x = sKey (c : Int) (n : Int)
  · subst hx
    rw [upd_same, fS_yes (by simp)]
  · rw [upd_other hx]
    unfold fS
    have : (∃ p ∈ S, x = sKey (p.1 : Int) (p.2 : Int)) ↔ (∃ p ∈ S ++ [(c, n)], x = sKey (p.1 : Int) (p.2 : Int)) := by
      constructor
      · rintro ⟨p, hp, e⟩; exact ⟨p, List.mem_append_left _ hp, e⟩
      · rintro ⟨p, hp, e⟩
        rcases List.mem_append.1 hp with h | h
        · exact ⟨p, h, e⟩
        · simp at h; subst h; exact absurd e hx
    by_cases hp : ∃ p ∈ S, x = sKey (p.1 : Int) (p.2 : Int)
    · rw [if_pos hp, if_pos (this.1 hp)]
    · rw [if_neg hp, if_neg (fun h => hp (this.2 h))]
/-- A name's ordinal, among those that were asked for, and behind them. -/
def ordN (N : List (List UInt8)) (s : List UInt8) : Nat := N.idxOf s + 1
def addNm (N : List (List UInt8)) (s : List UInt8) : List (List UInt8) := if s ∈ N then N else N ++ [s]
open Classical in
noncomputable def fN (N : List (List UInt8)) : Value → Option Value := fun x => if h : ∃ s ∈ N, x = .string (strOf s) then some (.int .i64 ((ordN N (Classical.choose h) : Nat) : Int)) else none
theorem fN_yes {N : List (List UInt8)} {s : List UInt8} (h : s ∈ N) : fN N (.string (strOf s)) = some (.int .i64 ((ordN N s : Nat) : Int)) := by
  unfold fN
  have hx : ∃ s' ∈ N, Value.string (strOf s) = .string (strOf s') := ⟨s, h, rfl⟩
  rw [dif_pos hx]
  have h2 := (Classical.choose_spec hx).2
  injection h2 with h2
  rw [← strOf_inj.1 h2]
theorem fN_no {N : List (List UInt8)} {s : List UInt8} (h : s ∉ N) : fN N (.string (strOf s)) = none := by
  unfold fN
  rw [dif_neg]
  rintro ⟨s', hs, e⟩
  injection e with e
  rw [strOf_inj.1 e] at h
  exact h hs
theorem fN_far {N : List (List UInt8)} {x : Value} (h : ¬ ∃ s ∈ N, x = .string (strOf s)) : fN N x = none := by
  unfold fN
  rw [dif_neg h]
theorem fN_nil : fN [] = fun _ => none := by
  funext x
  exact fN_far (by simp)
theorem ordN_snoc {N : List (List UInt8)} {s t : List UInt8} (h : t ∈ N) : ordN (N ++ [s]) t = ordN N t := by
  unfold ordN
  rw [List.idxOf_append, if_pos h]
theorem ordN_new {N : List (List UInt8)} {s : List UInt8} (h : s ∉ N) : ordN N s = N.length + 1 := by
  unfold ordN
  rw [List.idxOf_eq_length h]
theorem fN_snoc {N : List (List UInt8)} {s : List UInt8} (h : s ∉ N) : upd (fN N) (.string (strOf s)) (.int .i64 ((N.length + 1 : Nat) : Int)) = fN (N ++ [s]) := by
  funext x
  by_cases hx : x = .string (strOf s)
  · subst hx
    rw [upd_same, fN_yes (by simp), show ordN (N ++ [s]) s = N.length + 1 by unfold ordN; rw [List.idxOf_append, if_neg h]; simp]
  · rw [upd_other hx]
    by_cases hp : ∃ t ∈ N, x = .string (strOf t)
    · obtain ⟨t, ht, rfl⟩ := hp
      rw [fN_yes ht, fN_yes (List.mem_append_left _ ht), ordN_snoc ht]
    · rw [fN_far hp, fN_far]
      rintro ⟨t, ht, e⟩
      rcases List.mem_append.1 ht with h1 | h1
      · exact hp ⟨t, h1, e⟩
      · simp at h1; subst h1; exact hx e
/-- What was sealed, and as what. -/
structure SealV where
  e : Nat
  c : Nat
  n : Nat
  x : List UInt8
  s : List UInt8
  b : List UInt8
def SealV.key (t : SealV) : Value := bKey (t.e : Int) (t.c : Int) (t.n : Int) t.x t.s
/-- A slice whose memory is one of the blocks F, a row. -/
def InF (w : World) (F : List Nat) (A : Option Addr) (l : List UInt8) : Prop :=
  0 < l.length → ∃ b off, A = some ⟨b, off, none⟩ ∧ b ∈ F ∧ b < w.heap.size ∧ (∃ cs ty fz, w.heap[b]? = some (.cells cs ty fz)) ∧ ∀ j, j < l.length → w.cell? ⟨b, off + j, none⟩ = some (.int .u8 ((l.getD j 0).toNat : Int))
theorem InF.rd {w : World} {F : List Nat} {A : Option Addr} {l : List UInt8} (h : InF w F A l) : Rd w w.heap.size A l := fun hn => by
  obtain ⟨b, off, e, _, hb, _, hc⟩ := h hn
  exact ⟨b, off, e, hb, hc⟩
/-- What an ideal one's third map tells. -/
structure KnIs (w : World) (F : List Nat) (f : Value → Option Value) (L : List SealV) : Prop where
  all : ∀ t ∈ L, ∃ A c, f t.key = some (.slice A t.b.length c) ∧ t.b.length ≤ c ∧ c ≤ 9223372036854775807 ∧ InF w F A t.b
  only : ∀ x u, f x = some u → ∃ t ∈ L, x = t.key
/-- An ideal vault: N: its names; S: its sealings; L: what was sealed; F: the blocks that are its own. -/
structure VltI (w : World) (v sp nm kn : Nat) (K : List UInt8) (N : List (List UInt8)) (S : List (Nat × Nat)) (L : List SealV) (F : List Nat) : Prop where
  blk : Bk w v 50 (vrow true K (some sp) (some nm) (some kn))
  spent : MapIs w 58 sp S.length (fS S)
  names : MapIs w 9 nm N.length (fN N)
  known : ∃ n f, n ≤ L.length ∧ MapIs w 64 kn n f ∧ KnIs w F f L
  len : K.length = 32
  ne1 : sp ≠ nm
  ne2 : sp ≠ kn
  ne3 : nm ≠ kn
  inv : v ∈ F
  ins : sp ∈ F
  inn : nm ∈ F
  ink : kn ∈ F
  lts : ∀ t ∈ L, (t.c, t.n) ∈ S
  hF : ∀ k ∈ F, k < w.heap.size
/-- A real one. -/
structure VltR (w : World) (v sp : Nat) (K : List UInt8) (S : List (Nat × Nat)) (F : List Nat) : Prop where
  blk : Bk w v 50 (vrow false K (some sp) none none)
  spent : MapIs w 58 sp S.length (fS S)
  len : K.length = 32
  inv : v ∈ F
  ins : sp ∈ F
  hF : ∀ k ∈ F, k < w.heap.size
section
variable {w w' : World} {v sp nm kn : Nat} {K : List UInt8} {N : List (List UInt8)} {S : List (Nat × Nat)} {L : List SealV} {F F' : List Nat}
theorem heap_cell {b : Nat} (h : w'.heap[b]? = w.heap[b]?) (i : Nat) : w'.cell? ⟨b, i, none⟩ = w.cell? ⟨b, i, none⟩ := World.cell?_of_block h
theorem InF.keep {A : Option Addr} {l : List UInt8} (h : InF w F A l) (hk : ∀ k ∈ F, w'.heap[k]? = w.heap[k]?) (hs : w.heap.size ≤ w'.heap.size) : InF w' F A l := fun hn => by
  obtain ⟨b, off, e, hb, hlt, ⟨cs, ty, fz, hc0⟩, hc⟩ := h hn
  exact ⟨b, off, e, hb, by omega, ⟨cs, ty, fz, (hk b hb).trans hc0⟩, fun j hj => (heap_cell (hk b hb) _).trans (hc j hj)⟩
theorem VltI.keep (h : VltI w v sp nm kn K N S L F) (hk : ∀ k ∈ F, w'.heap[k]? = w.heap[k]?) (hs : w.heap.size ≤ w'.heap.size) : VltI w' v sp nm kn K N S L F := by
  obtain ⟨n, f, h1, h2, h3⟩ := h.known
  exact ⟨(hk v h.inv).trans h.blk, h.spent.keep (hk sp h.ins), h.names.keep (hk nm h.inn), ⟨n, f, h1, h2.keep (hk kn h.ink), ⟨fun t ht => by
    obtain ⟨A, c, e1, e2, e3, e4⟩ := h3.all t ht
    exact ⟨A, c, e1, e2, e3, e4.keep hk hs⟩, h3.only⟩⟩, h.len, h.ne1, h.ne2, h.ne3, h.inv, h.ins, h.inn, h.ink, h.lts, fun k hkF => Nat.lt_of_lt_of_le (h.hF k hkF) hs⟩
theorem VltI.below (h : VltI w v sp nm kn K N S L F) (hb : Below w.heap.size w w') : VltI w' v sp nm kn K N S L F := h.keep (fun k hk => hb.block k (h.hF k hk)) hb.size
theorem VltI.untouched {G : List Nat} (h : VltI w v sp nm kn K N S L F) (hb : Untouched G w w') (hG : ∀ k ∈ F, k ∉ G) : VltI w' v sp nm kn K N S L F := h.keep (fun k hk => hb.block k (h.hF k hk) (hG k hk)) hb.size
theorem VltR.keep (h : VltR w v sp K S F) (hk : ∀ k ∈ F, w'.heap[k]? = w.heap[k]?) (hs : w.heap.size ≤ w'.heap.size) : VltR w' v sp K S F :=
  ⟨(hk v h.inv).trans h.blk, h.spent.keep (hk sp h.ins), h.len, h.inv, h.ins, fun k hkF => Nat.lt_of_lt_of_le (h.hF k hkF) hs⟩
theorem VltR.below (h : VltR w v sp K S F) (hb : Below w.heap.size w w') : VltR w' v sp K S F := h.keep (fun k hk => hb.block k (h.hF k hk)) hb.size
end
/-! The small methods. -/
section
variable {w : World} {v sp : Nat} {id : Bool} {K : List UInt8} {nm kn : Option Nat}
set_option maxRecDepth 100000 in
set_option maxHeartbeats 1000000 in
theorem made_yes (h : Bk w v 50 (vrow id K (some sp) nm kn)) (hK : K.length = 32) :
    Calls Tryd.prog 15 #[.pointer (some ⟨v, 0, none⟩)] w fun e w' => e = .returned (.bool true) ∧ w = w' := by
  have c33 := (h.cell 33).trans (vrow_33 id K hK _ _ _)
  have hmn := fun W => run_neq_map_nil (P := Tryd.prog) W 46 58 59 (some sp) Tryd.underlying46
  clear h
  go_enter Tryd.func15, Tryd.ntmps15
  go_wp2
  go_ret
  exact ⟨rfl, rfl⟩
set_option maxRecDepth 100000 in
set_option maxHeartbeats 1000000 in
theorem count_yes {n : Nat} {f : Value → Option Value} (h : Bk w v 50 (vrow id K (some sp) nm kn)) (hK : K.length = 32) (hs : MapIs w 58 sp n f) :
    Calls Tryd.prog 14 #[.pointer (some ⟨v, 0, none⟩)] w fun e w' => e = .returned (.int .i64 (n : Int)) ∧ w = w' := by
  have c33 := (h.cell 33).trans (vrow_33 id K hK _ _ _)
  have hl := fun ty => hs.len Tryd.underlying46 ty
  clear h hs
  go_enter Tryd.func14, Tryd.ntmps14
  go_wp2
  go_ret
  exact ⟨rfl, rfl⟩
end
end Go.Proofs.YtoeofifibjelnaaDoor
