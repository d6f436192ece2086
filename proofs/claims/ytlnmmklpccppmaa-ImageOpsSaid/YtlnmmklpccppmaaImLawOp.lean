/-
  An operation has just these bytes, and comes back: the walk of the statement.
-/
import Derived.Test.YtlnmmklpccppmaaImLawO
import Derived.Deep.RegionWith
import Derived.Deep.Slices
import Derived.OpenShut
import Derived.ChangeSame
namespace Go.Proofs.Ytlnmmklpccppmaa
open Go.ChangeShapes Go.WideShapes Go.Deep Go.RowKit

/-- So far: the first k are laid. -/
def PutOpRel (w : World) (q : Nat) (ns : List Int) (v i : Value) (wr : World) : Prop :=
  ∃ k : Nat, k ≤ 7 ∧ i = .int .i64 (k : Int) ∧ Own 5 wr w.heap.size v ((ns.take k).flatMap encI) ∧ Whole wr q 3 (intvs ns) ∧ Below w.heap.size w wr
set_option maxHeartbeats 2000000 in
theorem refPutOp_any (ns : List Int) (h7 : ns.length = 7) (w : World) : Calls Try.prog 7 #[.agg (intvs ns).toArray] w (Gives w (ns.flatMap encI)) := by
  have KL := Whole.new (w.alloc (.cells (intvs ns).toArray 24)) (intvs ns).toArray 3
  rw [show (w.alloc (.cells (intvs ns).toArray 24)).heap.size = w.heap.size + 1 by simp, List.toList_toArray] at KL
  have hb1 : Below w.heap.size w ((w.alloc (.cells (intvs ns).toArray 24)).alloc (.cells (intvs ns).toArray 3)) := ((Below.refl _ _).alloc (Nat.le_refl _) _).alloc (by simp) _
  have HP := Lib.hid (And.intro KL hb1)
  clear KL hb1
  obtain ⟨L, hL⟩ : ∃ L, L = ns := ⟨_, rfl⟩
  have HL := Lib.hid hL
  have HL7 := Lib.hid (show L.length = 7 by rw [hL]; exact h7)
  clear hL
  match ns, h7 with
  | [a0, a1, a2, a3, a4, a5, a6], _ =>
    rw [← HL.out]
    unfold intvs at HP ⊢
    rw [HL.out]
    simp only [List.map_cons, List.map_nil] at HP ⊢
    obtain ⟨X, hX⟩ : ∃ X, X = Gives w ([a0, a1, a2, a3, a4, a5, a6].flatMap encI) := ⟨_, rfl⟩
    rw [← hX]
    have HX := Lib.hid hX
    clear hX
    go_enter Try.func7, Try.ntmps7
    go_wp2
    obtain ⟨KL, hb1⟩ := HP.out
    generalize (w.alloc (.cells #[.int .i64 a0, .int .i64 a1, .int .i64 a2, .int .i64 a3, .int .i64 a4, .int .i64 a5, .int .i64 a6] 24)).alloc (.cells #[.int .i64 a0, .int .i64 a1, .int .i64 a2, .int .i64 a3, .int .i64 a4, .int .i64 a5, .int .i64 a6] 3) = W at *
    go_loopw [3, 5] (PutOpRel w (w.heap.size + 1) L) (fun _ i _ => 7 - (intOf i).toNat)
    case atStart => exact ⟨0, by omega, rfl, Own.nil, by rw [HL.out]; exact KL, hb1⟩
    case round =>
      clear HP KL hb1
      obtain ⟨k, hk, rfl, hown, hq, hbw⟩ := hrel
      by_cases hlt : k < 7
      · have hki : (k : Int) < 7 := by omega
        obtain ⟨x, hx⟩ : ∃ x, L[k]? = some x := ⟨_, List.getElem?_eq_getElem (by rw [HL7.out]; exact hlt)⟩
        have q0 : wr.cell? ⟨w.heap.size + 1, k, none⟩ = some (.int .i64 x) := by
          rw [hq.cell]
          unfold intvs
          rw [List.getElem?_map, hx]
          rfl
        have Htk := Lib.hid (take_flat encI hx)
        have Hq := Lib.hid hq
        have Hbw := Lib.hid hbw
        have Hown := Lib.hid hown
        have hl1 : ((L.take k).flatMap encI).length ≤ 100 := by rw [flat_len encI_length, List.length_take]; omega
        clear hx hq hbw hown
        go_wp2_with fail
        refine (eight_any x wr).mono ?_
        rintro e w1 ⟨v1, rfl, hown1, hb1⟩
        obtain ⟨A1, c1, rfl, hc1, hm1, hrd1⟩ := hown1.shapeN (n := 8) (by simp [be_length])
        obtain ⟨v2, w2, hap, hown2, hg2, hor⟩ := run_app (P := Try.prog) w.heap.size 25 25 5 Try.underlying25 Try.infoU8 _ _ (Hown.out.below hb1) A1 8 c1 _ hrd1 (by omega) (Nat.le_trans Hbw.out.size hb1.size)
        have hq1 := Hq.out.below hb1
        have Q2 := Lib.hid (hq1.keep (hg2.block _ hq1.lt (by have := (Hown.out.below hb1).ownV.apart hq1 (by decide); simpa using this.symm)))
        have B2 := Lib.hid (below_app (Hbw.out.trans (hb1.mono Hbw.out.size)) (Hown.out.below hb1) hg2 (Nat.le_trans Hbw.out.size hb1.size))
        change Own _ w2 _ v2 (_ ++ encI x) at hown2
        rw [← Htk.out] at hown2
        obtain ⟨n2, hn2⟩ : ∃ n2, ((L.take (k + 1)).flatMap encI).length = n2 := ⟨_, rfl⟩
        obtain ⟨A2, c2, rfl, _, _, _⟩ := hown2.shapeN hn2
        have O2 := Lib.hid hown2
        clear hown2 hq1 hg2 hor hrd1 hown1 hb1 hl1 q0 hn2
        go_wp2_with (at_builtin; refine wpList_append_run hap rfl _ _ rfl rfl rfl rfl ?_)
        go_roundw
        case rel => exact ⟨k + 1, by omega, by go_num, O2.out, Q2.out, B2.out⟩
        case measure => simp [intOf]; omega
      · obtain rfl : k = 7 := by omega
        rw [List.take_of_length_le (by rw [HL7.out]; exact Nat.le_refl _)] at hown
        clear hq
        obtain ⟨A2, c2, rfl, _, _, _⟩ := hown.shapeN (n := 56) (by rw [flat_len encI_length, HL7.out])
        have Ho := Lib.hid hown
        clear hown
        go_wp2
        rw [HX.out, ← HL.out]
        exact ⟨_, rfl, Ho.out, hbw⟩

theorem list7i {α : Type} {l : List α} (h : l.length = 7) : ∃ a b c d e f g, l = [a, b, c, d, e, f, g] := by
  match l, h with
  | [a, b, c, d, e, f, g], _ => exact ⟨a, b, c, d, e, f, g, rfl⟩
theorem wf_int {a : Int} (h : (Lit.int .i64 a).wf = true) : IsInt a := by
  simpa [IsInt, Lit.wf, IntKind.min, IntKind.max, IntKind.signed, IntKind.bits] using h
section
variable {H : Type} {enc : TypeId × Value → H} {w : World}
theorem trod_fields7i {P : Program} {b0 : Nat} {sp : Nat → Bool} {hd : Bool} {t : TypeId} {f0 f1 f2 f3 f4 f5 f6 : Field} {cs : List Value} {fuel : Nat} {x : DataW H × List MemPlace} (ht : P.underlying t = some (.struct #[f0, f1, f2, f3, f4, f5, f6])) (h : DataW.trod enc P w b0 sp hd fuel t cs = some x) :
    ∃ n y0 y1 y2 y3 y4 y5 y6, cs.length = P.cellsOf t ∧ DataW.trod enc P w b0 sp hd n f0.type ((cs.drop f0.offset).take (P.cellsOf f0.type)) = some y0 ∧ DataW.trod enc P w b0 sp hd n f1.type ((cs.drop f1.offset).take (P.cellsOf f1.type)) = some y1 ∧ DataW.trod enc P w b0 sp hd n f2.type ((cs.drop f2.offset).take (P.cellsOf f2.type)) = some y2 ∧ DataW.trod enc P w b0 sp hd n f3.type ((cs.drop f3.offset).take (P.cellsOf f3.type)) = some y3 ∧ DataW.trod enc P w b0 sp hd n f4.type ((cs.drop f4.offset).take (P.cellsOf f4.type)) = some y4 ∧ DataW.trod enc P w b0 sp hd n f5.type ((cs.drop f5.offset).take (P.cellsOf f5.type)) = some y5 ∧ DataW.trod enc P w b0 sp hd n f6.type ((cs.drop f6.offset).take (P.cellsOf f6.type)) = some y6 := by
  obtain ⟨xs, n, _, _, hlen, hxl, hg⟩ := DataW.trod_struct ht h
  have hxl2 : xs.length = 7 := hxl
  obtain ⟨y0, y1, y2, y3, y4, y5, y6, rfl⟩ := list7i hxl2
  exact ⟨n, y0, y1, y2, y3, y4, y5, y6, hlen, hg 0 f0 rfl, hg 1 f1 rfl, hg 2 f2 rfl, hg 3 f3 rfl, hg 4 f4 rfl, hg 5 f5 rfl, hg 6 f6 rfl⟩
/-- An operation that came in: seven ints. -/
def IsOp7 (l : List Int) : Prop := l.length = 7 ∧ ∀ x ∈ l, IsInt x
theorem op7_open {cs : List Value} {fuel : Nat} {x : DataW H × List MemPlace} (h : DataW.trod enc Try.prog w 0 (fun _ => true) true fuel 24 cs = some x) : ∃ l, cs = intvs l ∧ IsOp7 l := by
  have hI : Try.prog.cellsOf 3 = 1 := by kernel_rfl
  have hK : Try.prog.cellsOf 22 = 1 := by kernel_rfl
  have hO : Try.prog.cellsOf 24 = 7 := by kernel_rfl
  obtain ⟨n, y0, y1, y2, y3, y4, y5, y6, hlen, g0, g1, g2, g3, g4, g5, g6⟩ := trod_fields7i Try.underlying24 h
  rw [hO] at hlen
  obtain ⟨c0, c1, c2, c3, c4, c5, c6, rfl⟩ := list7i hlen
  simp only [hI, hK, List.drop_zero, List.drop_succ_cons, List.take_succ_cons, List.take_zero] at g0 g1 g2 g3 g4 g5 g6
  obtain ⟨a0, e0, _, w0⟩ := DataW.trod_int Try.underlying22 g0
  obtain ⟨a1, e1, _, w1⟩ := DataW.trod_int Try.underlying3 g1
  obtain ⟨a2, e2, _, w2⟩ := DataW.trod_int Try.underlying3 g2
  obtain ⟨a3, e3, _, w3⟩ := DataW.trod_int Try.underlying3 g3
  obtain ⟨a4, e4, _, w4⟩ := DataW.trod_int Try.underlying3 g4
  obtain ⟨a5, e5, _, w5⟩ := DataW.trod_int Try.underlying3 g5
  obtain ⟨a6, e6, _, w6⟩ := DataW.trod_int Try.underlying3 g6
  simp at e0 e1 e2 e3 e4 e5 e6
  subst e0 e1 e2 e3 e4 e5 e6
  refine ⟨[a0, a1, a2, a3, a4, a5, a6], rfl, rfl, fun x hx => ?_⟩
  simp only [List.mem_cons, List.not_mem_nil, or_false] at hx
  rcases hx with rfl | rfl | rfl | rfl | rfl | rfl | rfl
  · exact wf_int w0
  · exact wf_int w1
  · exact wf_int w2
  · exact wf_int w3
  · exact wf_int w4
  · exact wf_int w5
  · exact wf_int w6
end
end Go.Proofs.Ytlnmmklpccppmaa
