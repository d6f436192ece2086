/-
  The document's example of layer 3: it holds in whatever world the library's table stands.
-/
import Derived.Test.YtjfcgjmiianmkaaDoorBitsU
namespace Go.Proofs.YtjfcgjmiianmkaaDoor
open Go.RowKit

/-- The example's map. -/
def exL : List Bool := [false, false, true, true, true, false, false, false, false, false]
theorem ex_put : putV (List.replicate 10 false) 2 3 true = exL ∧ putE (List.replicate 10 false) 2 3 = 0 := by decide +kernel
theorem ex_put2 : putV exL 9 2 true = exL ∧ putE exL 9 2 = 30 ∧ putV exL 10 0 true = exL ∧ putE exL 10 0 = 0 := by decide +kernel
theorem ex_asks : getB exL 3 = true ∧ getE exL 3 = 0 ∧ countL exL = 3 ∧ runL exL 0 2 true = 2 ∧ runL exL 0 3 false = 5 ∧ bytesL exL = [28, 0] := by decide +kernel

set_option maxRecDepth 100000 in
set_option maxHeartbeats 2000000 in
theorem awake_any (w : World) (hT : Tab w) : Calls Tryd.prog 11 #[] w (Holds w) := by
  have N1 := new_yes 10 w (by omega)
  rw [show ((10 : Nat) : Int) = 10 from rfl] at N1
  go_enter Tryd.func11, Tryd.ntmps11
  go_wp2_with fail
  refine N1.mono ?_
  rintro e w1 ⟨g, h, rfl, m1, hg, hh, b1⟩
  go_wp2_with fail
  refine (new_no 4097 w1 (.inr (by omega))).mono ?_
  rintro e w2 ⟨rfl, rfl⟩
  have hgl := m1.lt
  have hT1 := hT.below b1
  have hT0 := hT.lt
  have P1 := put_any g h _ 2 3 true w1 m1 (by omega)
  rw [ex_put.1, ex_put.2] at P1
  clear m1
  go_wp2_with fail
  refine P1.mono ?_
  rintro e w2 ⟨rfl, m2, g2⟩
  have P2 := put_any g h _ 9 2 true w2 m2 (by omega)
  rw [ex_put2.1, ex_put2.2.1] at P2
  go_wp2_with fail
  refine P2.mono ?_
  rintro e w3 ⟨rfl, m3, g3⟩
  have P3 := put_any g h _ 10 0 true w3 m3 (by omega)
  rw [ex_put2.2.2.1, ex_put2.2.2.2] at P3
  clear m2
  go_wp2_with fail
  refine P3.mono ?_
  rintro e w4 ⟨rfl, m4, g4⟩
  clear m3
  have G := get_any g h _ 3 w4 m4
  rw [ex_asks.1, ex_asks.2.1] at G
  have hT4 : Tab w4 := ((hT1.beside g2 (by omega)).beside g3 (by omega)).beside g4 (by omega)
  have C := count_any g h _ w4 m4
  rw [ex_asks.2.2.1] at C
  have R1 := run_any g h _ 0 2 true w4 m4 hT4
  rw [ex_asks.2.2.2.1] at R1
  have R2 := run_any g h _ 0 3 false w4 m4 hT4
  rw [ex_asks.2.2.2.2.1] at R2
  have B := bytes_any g h _ w4 m4
  rw [ex_asks.2.2.2.2.2] at B
  have b4 : Below w.heap.size w w4 := below_grown (below_grown (below_grown b1 g2 b1.size hh) g3 (Nat.le_trans b1.size g2.size) hh) g4 (Nat.le_trans b1.size (Nat.le_trans g2.size g3.size)) hh
  go_wp2_with fail
  refine G.mono ?_
  rintro e w5 ⟨rfl, rfl⟩
  clear G
  go_wp2_with fail
  refine C.mono ?_
  rintro e w5 ⟨rfl, rfl⟩
  clear C
  go_wp2_with fail
  refine R1.mono ?_
  rintro e w5 ⟨rfl, rfl⟩
  clear R1
  go_wp2_with fail
  refine R2.mono ?_
  rintro e w5 ⟨rfl, rfl⟩
  clear R2
  go_wp2_with fail
  refine B.mono ?_
  rintro e w5 ⟨v5, rfl, o5, b5⟩
  obtain ⟨A5, c5, rfl, _, _, r5⟩ := o5.shapeN (n := 2) rfl
  have k5 := r5.conv (P := Tryd.prog) c5 39 5 9 Tryd.underlying39 Tryd.underlying5 Tryd.underlying9
  have b6 := b4.trans (b5.mono (Nat.le_trans b1.size (Nat.le_trans g2.size (Nat.le_trans g3.size g4.size))))
  clear r5 o5 B
  go_wp2
  go_ret
  exact ⟨rfl, b6⟩
end Go.Proofs.YtjfcgjmiianmkaaDoor
