/-
  Contract: the document's own Stream of ChaCha20.
-/
import Derived.Test.YtopmngjaieobnaaK7
import Derived.Test.YtopmngjaieobnaaK6
import Derived.Test.YtopmngjaieobnaaBf
import Derived.Test.YtopmngjaieobnaaAm
namespace Go.Proofs.Ytopmngjaieobnaa
open Go.RowKit
set_option linter.unusedVariables false
set_option linter.unusedSimpArgs false

theorem mixB_comm (l m : List UInt8) : mixB l m = mixB m l := by
  unfold mixB
  rw [List.zipWith_comm]
  congr 1
  funext a b
  exact UInt8.xor_comm _ _
theorem str_rest (l : List UInt8) (n k : Nat) (hl : l.length = n) (hk : k ≤ n) (W : World) :
    (Instr.slice 9 (.string (strOf l)) (some (.int .i64 (k : Int))) none none).run Try.prog W = .ok (.string (strOf (l.drop k))) W := by
  have hs : (strOf l).size = n := by rw [strOf_size, hl]
  rw [run_slice_string_l W 9 (strOf l) Try.underlying9 .i64 (k : Int) (by omega) (by rw [hs]; omega), Int.toNat_natCast, hs, strOf_mid]
  congr 3
  exact List.take_of_length_le (by rw [List.length_drop]; omega)

set_option maxRecDepth 100000 in
set_option maxHeartbeats 4000000 in
theorem refStream_any (key nonce : List UInt8) (counter : Int) (n : Nat) (b : List UInt8) (w : World) (hk : key.length = 32) (hn : nonce.length = 12) (hc : ok32 counter) (hbl : b.length = n) (hm : n ≤ 1000000) :
    Calls Try.prog 54 #[.string (strOf key), .int .u32 counter, .string (strOf nonce), .string (strOf b)] w fun e w' => e = .returned (.string (strOf (streamB key nonce counter b))) ∧ Below w.heap.size w w' := by
  have cb := fun k W => refBlock_any key nonce (ctrN counter k) W hk hn (ctrN_ok counter k)
  have HBL := hidq_ hbl
  have HC0 := hidq_ (ctrN_zero hc)
  have hsb : (strOf b).size = n := by rw [strOf_size, hbl]
  obtain ⟨g, hg⟩ : ∃ g, Hid (w.heap.size = g) := ⟨_, rfl⟩
  have hgl : g ≤ w.heap.size := by rw [hg.out]; exact Nat.le_refl _
  clear hk hn hc hbl
  go_enter Try.func54, Try.ntmps54
  go_wp2
  go_loopw [1, 9] (fun cx v wr => ∃ k : Nat, (k = 0 ∨ 64 * (k - 1) < n) ∧ cx = .int .u32 (ctrN counter k) ∧ OwnT wr g v (soFar key nonce counter b k) ∧ Below g w wr) (fun _ v _ => n - lenOf v)
  case atStart => exact ⟨0, .inl rfl, by rw [HC0.out], .inl ⟨rfl, rfl⟩, by rw [← hg.out]; exact Below.refl _ _⟩
  case round =>
    obtain ⟨k, hk, rfl, h1, h4⟩ := hrel
    obtain ⟨Av, cv, rfl⟩ := h1.form
    have hlt0 := h1.lt
    have HV := hidq_ h1
    have HR := hidq_ h4
    have HLT := hidq_ hlt0
    have hln := soFar_len key nonce counter b k
    rw [HBL.out] at hln
    clear h1 h4 hlt0
    by_cases hlt : 64 * k < n
    · have hq : Hid ((soFar key nonce counter b k).length = 64 * k) := hidq_ (by omega)
      rw [hq.out] at HV HLT ⊢
      have cb1 := cb k wr
      have LB := hidq_ (blockB_len key (ctrN counter k) nonce)
      have HSN : Hid (soFar key nonce counter b (k + 1) = soFar key nonce counter b k ++ mixB (b.drop (64 * k)) (blockB key (ctrN counter k) nonce)) := hidq_ rfl
      have CN := hidq_ (ctrN_next counter k)
      have CO := ctrN_ok counter k
      obtain ⟨bk, hbk⟩ : ∃ x, Hid (blockB key (ctrN counter k) nonce = x) := ⟨_, rfl⟩
      rw [hbk.out] at cb1 LB HSN
      rw [mixB_comm] at HSN
      obtain ⟨cx, hcx⟩ : ∃ x, Hid (ctrN counter k = x) := ⟨_, rfl⟩
      rw [hcx.out] at cb1 CN CO ⊢
      obtain ⟨CO0, CO1⟩ := CO
      have sl1 : ∀ W : World, (Instr.slice 9 (.string (strOf b)) (some (.int .i64 (64 * (k : Int)))) none none).run Try.prog W = .ok (.string (strOf (b.drop (64 * k)))) W := fun W => by
        have h := str_rest b n (64 * k) HBL.out (by omega) W
        rwa [show ((64 * k : Nat) : Int) = 64 * (k : Int) by omega] at h
      obtain ⟨u, hu⟩ : ∃ u, Hid (u = min 64 (n - 64 * k)) := ⟨_, rfl⟩
      have cm := fun W => refMix_any bk (b.drop (64 * k)) 64 (n - 64 * k) u W LB.out (by rw [List.length_drop, HBL.out]) hu.out (by omega) (by omega)
      have hmx : Hid ((mixB bk (b.drop (64 * k))).length = u) := hidq_ (by rw [mixB_len, List.length_drop, HBL.out, LB.out, hu.out])
      have hu0 : 0 < u := by have := hu.out; omega
      have hu64 : u ≤ 64 := by have := hu.out; omega
      have hs1 := HR.out.size
      clear hln
      go_wp2_with (first
        | (go_at_call 81; ((with_reducible refine cb1.mono ?_); rintro e w2 ⟨rfl, g1⟩; have HB1 := hidq_ g1; clear g1))
        | (go_at_call 82; ((with_reducible refine (cm _).mono ?_); rintro e w3 ⟨rfl, g1⟩; have HB2 := hidq_ g1; clear g1; have V3 := hidq_ (HV.out.below (HB1.out.trans (HB2.out.mono HB1.out.size)) (Nat.le_refl _))))
        | (at_builtin; refine wpList_appS rfl (.tmp 20) (.tmp 26) rfl V3.out rfl (mixB bk (b.drop (64 * k))) u rfl hmx.out ?_ ?_ ?_; (rw [hq.out]; omega); (have := HB1.out.size; have := HB2.out.size; omega); (intro A5 c5 w5 k1 k2; rw [hq.out] at *)))
      have Y5 := (HR.out.trans ((HB1.out.trans (HB2.out.mono HB1.out.size)).mono (by omega))).grown k2 (by have := HB1.out.size; have := HB2.out.size; omega) (fun i hi => (V3.out.lt i hi).1)
      refine ⟨⟨k + 1, .inr (by omega), by rw [CN.out], by rw [HSN.out]; exact k1, Y5⟩, ?_⟩
      show n - (64 * k + u) < n - 64 * k
      omega
    · have hq : Hid ((soFar key nonce counter b k).length = n) := hidq_ (by omega)
      have hst : streamB key nonce counter b = soFar key nonce counter b k := by
        rw [streamB, HBL.out, show (n + 63) / 64 = k by omega]
      rw [hq.out] at HV HLT ⊢
      have cvv := conv_strn HV.out.rd.1 n cv hq.out
      have HST := hidq_ hst
      clear hst hln
      go_wp2
      go_ret
      exact ⟨by rw [HST.out]; rfl, by rw [hg.out]; exact HR.out⟩
end Go.Proofs.Ytopmngjaieobnaa
