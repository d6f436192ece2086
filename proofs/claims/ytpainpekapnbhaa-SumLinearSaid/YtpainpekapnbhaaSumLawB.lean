/-
  The walk of the law SumTwice: it says true, whatever came in, and nothing that was there is written over.
-/
import Derived.Test.YtpainpekapnbhaaSumLawA
namespace Go.Proofs.Ytpainpekapnbhaa
open Go.RowKit

theorem sealOf_length (b : List UInt8) : (sealOf b).length = b.length + 4 := by unfold sealOf; rw [List.length_append, be_length]
theorem sealOf_take (b : List UInt8) : (sealOf b).take b.length = b := by unfold sealOf; simp

set_option maxHeartbeats 2000000 in
theorem sumTwice_walk (A : Option Addr) (n c : Nat) (b : List UInt8) (w : World) (hb : Rd w A n b) :
    Calls Try.prog 9 #[.slice A n c] w (Holds w) := by
  by_cases hn : 65536 < n
  · go_enter Try.func9, Try.ntmps9
    go_wp2
    go_ret
    exact ⟨rfl, Below.refl _ _⟩
  · have Hl := Lib.hid hb.len
    have H1 : Hid ((sealOf b).length = n + 4) := Lib.hid (by rw [sealOf_length, Hl.out])
    have H2 : Hid ((sealOf (sealOf b)).length = n + 8) := Lib.hid (by rw [sealOf_length, H1.out])
    have T1 : Hid ((sealOf b).take (n + 4 - 4) = b) := Lib.hid (by have := sealOf_take b; rw [Hl.out] at this; exact this)
    have T2 : Hid ((sealOf (sealOf b)).take (n + 8 - 4) = sealOf b) := Lib.hid (by have := sealOf_take (sealOf b); rw [H1.out] at this; exact this)
    go_enter Try.func9, Try.ntmps9
    go_wp2_with fail
    refine (seal_any A n c b w hb (by omega)).mono ?_
    rintro e w1 ⟨v1, rfl, o1, b1⟩
    obtain ⟨A1, c1, rfl, hc1, hm1, r1⟩ := o1.shapeN (n := n + 4) H1.out
    change Rd w1 A1 (n + 4) (sealOf b) at r1
    clear o1
    go_wp2_with fail
    refine (seal_any A1 (n + 4) c1 (sealOf b) w1 r1 (by omega)).mono ?_
    rintro e w2 ⟨v2, rfl, o2, b2⟩
    obtain ⟨A2, c2, rfl, hc2, hm2, r2⟩ := o2.shapeN (n := n + 8) H2.out
    change Rd w2 A2 (n + 8) (sealOf (sealOf b)) at r2
    clear o2 r1
    have b12 := b1.trans (b2.mono b1.size)
    go_wp2_with fail
    refine (open_yes A2 (n + 8) c2 (sealOf (sealOf b)) w2 r2 (by omega) hc2 hm2 (by omega) (by rw [T2.out])).mono ?_
    rintro e w3 ⟨v3, rfl, o3, b3⟩
    rw [T2.out] at o3
    obtain ⟨A3, c3, rfl, hc3, hm3, r3⟩ := o3.shapeN (n := n + 4) H1.out
    clear o3 r2
    have b13 := b12.trans (b3.mono b12.size)
    go_wp2_with fail
    refine (open_yes A3 (n + 4) c3 (sealOf b) w3 r3 (by omega) hc3 hm3 (by omega) (by rw [T1.out])).mono ?_
    rintro e w4 ⟨v4, rfl, o4, b4⟩
    rw [T1.out] at o4
    obtain ⟨A4, c4, rfl, hc4, hm4, r4⟩ := o4.shapeN (n := n) Hl.out
    clear o4 r3
    have b14 := b13.trans (b4.mono b13.size)
    go_wp2_with fail
    refine (seals_any w4).mono ?_
    rintro e w5 ⟨rfl, b5⟩
    have b15 := b14.trans (b5.mono b14.size)
    have k5 := (r4.below b5).conv (P := Try.prog) c4 22 5 9 Try.underlying22 Try.underlying5 Try.underlying9
    have k6 := (hb.below b15).conv (P := Try.prog) c 22 5 9 Try.underlying22 Try.underlying5 Try.underlying9
    clear r4
    go_wp2
    go_ret
    exact ⟨rfl, b15⟩
end Go.Proofs.Ytpainpekapnbhaa
