/-
  The walk of the law ChunkJoins: it says true, whatever came in, and nothing that was there is written over.
-/
import Derived.Test.YtjncmfjikoepgaaChJo
namespace Go.Proofs.Ytjncmfjikoepgaa
open Go.RowKit

set_option maxRecDepth 20000 in
set_option maxHeartbeats 2000000 in
theorem chunkJoins_walk (n : Int) (A A2 : Option Addr) (k c k2 c2 : Nat) (z : List Int) (ps : List ByteArray) (w : World) (hr : RdV w A k (ivs z)) (hp : RdV w A2 k2 (tvs ps)) :
    Calls Try.prog 5 #[.int .i64 n, .slice A k c, .slice A2 k2 c2] w (Holds w) := by
  by_cases h1 : 2000 < k
  · have d1 : decide (2000 < (k : Int)) = true := decide_eq_true (by omega)
    go_enter Try.func5, Try.ntmps5
    go_wp2
    go_ret
    exact ⟨rfl, Below.refl _ _⟩
  have d1 : decide (2000 < (k : Int)) = false := decide_eq_false (by omega)
  have d1' : decide (2000 < k) = false := decide_eq_false (by omega)
  by_cases h2 : 2000 < k2
  · have d2 : decide (2000 < (k2 : Int)) = true := decide_eq_true (by omega)
    go_enter Try.func5, Try.ntmps5
    go_wp2
    go_ret
    exact ⟨rfl, Below.refl _ _⟩
  have d2 : decide (2000 < (k2 : Int)) = false := decide_eq_false (by omega)
  have d2' : decide (2000 < k2) = false := decide_eq_false (by omega)
  have HR := Lib.hid hr
  have HP := Lib.hid hp
  clear hr hp
  go_enter Try.func5, Try.ntmps5
  go_wp2_with fail
  go_loop [7, 8] (fun v i => ∃ j q : Nat, j ≤ k2 ∧ q ≤ 131072 ∧ i = .int .i64 (j : Int) ∧ v = .int .i64 (q : Int)) (fun _ i => k2 - (intOf i).toNat)
  case atStart => exact ⟨0, 0, by omega, by omega, rfl, rfl⟩
  case round =>
    obtain ⟨j, q, hj, hq, rfl, rfl⟩ := hrel
    by_cases hlt : j < k2
    · obtain ⟨g, off, u, rfl, hgw, hu, hc⟩ := HP.out.cell hlt
      obtain ⟨p, hpj, rfl⟩ := tvs_get hu
      obtain ⟨l, hl⟩ : ∃ l, p.size = l := ⟨_, rfl⟩
      clear hu hpj
      by_cases hb : 131072 - (q : Int) < (l : Int)
      · have e1 : decide (131072 - (q : Int) < (l : Int)) = true := decide_eq_true hb
        go_wp2
        go_ret
        exact ⟨rfl, Below.refl _ _⟩
      · have e1 : decide (131072 - (q : Int) < (l : Int)) = false := decide_eq_false hb
        obtain ⟨r, hr⟩ : ∃ r, r = q + l := ⟨_, rfl⟩
        have e2 : (q : Int) + (l : Int) = (r : Int) := by omega
        have e3 : r ≤ 131072 := by omega
        clear hr
        go_wp2
        exact ⟨⟨j + 1, r, by omega, e3, by go_num, rfl⟩, by simp [intOf]; omega⟩
    · obtain rfl : j = k2 := by omega
      have HJ := join_any n A A2 k c j c2 z ps w HR.out (by omega) HP.out (by omega)
      by_cases hok : JoinOk n z ps
      · have HJ2 := HJ.mono (R' := fun e w' => e = .returned (.tuple #[.string (cat ps), .int .i64 0]) ∧ Below w.heap.size w w') fun e w' ⟨q1, q2⟩ => by
          rcases q1 with ⟨_, q⟩ | ⟨q, _⟩
          · exact ⟨q, q2⟩
          · exact absurd hok q
        have HF := Lib.hid (fun V (hV : Below w.heap.size w V) => (refJoin_any n A A2 k c j c2 z ps V (HR.out.below hV) (by omega) (HP.out.below hV) (by omega)).mono (R' := fun e w' => e = .returned (.tuple #[.string (cat ps), .int .i64 0]) ∧ Below V.heap.size V w') fun e w' ⟨q1, q2⟩ => by
          rcases q1 with ⟨_, q⟩ | ⟨q, _⟩
          · exact ⟨q, q2⟩
          · exact absurd hok q)
        clear HJ hok
        go_wp2_with fail
        refine HJ2.mono ?_
        rintro e w2 ⟨rfl, b2⟩
        go_wp2_with fail
        refine (HF.out _ b2).mono ?_
        rintro e w3 ⟨rfl, b3⟩
        go_wp2_with (go_at_call 21; refine (joins_holds _).mono ?_; rintro e w4 ⟨rfl, b4⟩)
        go_ret
        have q1 := b2.trans (b3.mono b2.size)
        exact ⟨rfl, q1.trans (b4.mono q1.size)⟩
      · have HJ2 := HJ.mono (R' := fun e w' => e = .returned (.tuple #[.string ⟨#[]⟩, .int .i64 100]) ∧ Below w.heap.size w w') fun e w' ⟨q1, q2⟩ => by
          rcases q1 with ⟨q, _⟩ | ⟨_, q⟩
          · exact absurd q hok
          · exact ⟨q, q2⟩
        have HF := Lib.hid (fun V (hV : Below w.heap.size w V) => (refJoin_any n A A2 k c j c2 z ps V (HR.out.below hV) (by omega) (HP.out.below hV) (by omega)).mono (R' := fun e w' => e = .returned (.tuple #[.string ⟨#[]⟩, .int .i64 100]) ∧ Below V.heap.size V w') fun e w' ⟨q1, q2⟩ => by
          rcases q1 with ⟨q, _⟩ | ⟨_, q⟩
          · exact absurd q hok
          · exact ⟨q, q2⟩)
        clear HJ hok
        go_wp2_with fail
        refine HJ2.mono ?_
        rintro e w2 ⟨rfl, b2⟩
        go_wp2_with fail
        refine (HF.out _ b2).mono ?_
        rintro e w3 ⟨rfl, b3⟩
        go_wp2_with (go_at_call 21; refine (joins_holds _).mono ?_; rintro e w4 ⟨rfl, b4⟩)
        go_ret
        have q1 := b2.trans (b3.mono b2.size)
        exact ⟨rfl, q1.trans (b4.mono q1.size)⟩
end Go.Proofs.Ytjncmfjikoepgaa
