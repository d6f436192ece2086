/-
  The statements' example holds (awake); a message of a number; what is too large: contracts.
-/
import Derived.Test.YtgkhjmdghmpfcaaBgDbl
namespace Go.Proofs.Ytgkhjmdghmpfcaa
open Go.RowKit

def oneM (n : Int) : Ms := { zms with k := 1, n := n }
set_option maxRecDepth 20000 in
set_option maxHeartbeats 1000000 in
theorem one_any (n : Int) (w : World) : Calls Try.prog 23 #[.int .i64 n] w fun x w' => x = .returned (mval (oneM n) zv) ∧ Below w.heap.size w w' := by
  obtain ⟨W1, a1, n1, hst⟩ := alloc_new w
  obtain ⟨W2, st, n2⟩ := hst (oneM n) zv rfl
  have HN := Lib.hid n2
  clear n1 hst n2
  go_enter Try.func23, Try.ntmps23
  go_wp2_with (first | (refine wpList_alloc_run a1 rfl rfl ?_) | (refine wpList_store_run st rfl _ _ rfl rfl rfl ?_))
  refine bodyPost_ret (results_cell_row rfl _ _ w.heap.size 47 _ (0, 0) _ rfl HN.out.whole Try.underlying47 rfl (by kernel_rfl)) rfl ?_
  exact ⟨rfl, HN.out.below⟩
theorem range_zero2 : ((Array.range 46).map ((mcs zms zv).toArray[· % 23]!)) = (mcs zms zv ++ mcs zms zv).toArray := by kernel_rfl
theorem fill_two : Instr.fill (fun i => some (i * 23, 23)) (mcs zms zv ++ mcs zms zv).toArray [(0, mval (oneM 1) zv), (1, mval (oneM 2) zv)] = some (mcs (oneM 1) zv ++ mcs (oneM 2) zv).toArray := by kernel_rfl
theorem slice_two (w : World) : ∃ W, (Instr.buildSlice 29 2 #[(0, mval (oneM 1) zv), (1, mval (oneM 2) zv)]).run Try.prog w = .ok (.slice (some ⟨w.heap.size, 0, none⟩) 2 2) W ∧ RdM W (some ⟨w.heap.size, 0, none⟩) 2 [(oneM 1, zv), (oneM 2, zv)] ∧ Below w.heap.size w W := by
  have hf := fill_two
  have hcs : (mval zms zv).cells = (mcs zms zv).toArray := rfl
  have hsz : (mcs zms zv).toArray.size = 23 := rfl
  have u := Try.underlying29
  have z := Try.sizeOf47
  have hr := range_zero2
  have hW := Whole.new w (mcs (oneM 1) zv ++ mcs (oneM 2) zv).toArray 47
  refine ⟨w.alloc (.cells (mcs (oneM 1) zv ++ mcs (oneM 2) zv).toArray 47), ?_, ⟨rfl, ⟨rfl, fun _ => ⟨_, 0, rfl, hW.lt, ?_⟩⟩, fun p hp => ?_⟩, (Below.refl _ _).alloc (Nat.le_refl _) _⟩
  · have h46 : 2 * 23 = 46 := rfl
    simp only [Instr.buildSlice, Sem.run_bind, run_underlying u, Result.andThen_ok, z, h46, if_neg (show ¬ (46 > 2 ^ 24) by decide), if_neg (show ¬ (46 = 0) by decide), Sem.run_pure, zero_ms, hcs, hsz, hr, hf]
    simp [newRow]
  · have := whole_range hW
    simpa [mcl, mcc] using this
  · simp only [List.mem_cons, List.not_mem_nil, or_false] at hp
    rcases hp with rfl | rfl
    · exact ⟨none, 0, rfl, RdE.nil⟩
    · exact ⟨none, 0, rfl, RdE.nil⟩
theorem BagAt.ge {w : World} {p base room : Nat} {v : Value} {l : List (Ms × Value)} (h : BagAt w p base room v l) : ∀ k, bX p v k → base ≤ k := by
  rintro k (e | e)
  · rw [e]; exact h.bp
  · exact (World.ownsRow.lt h.row k e).1
theorem names_cons {os : List (Ms × Value)} {a : Ms} {r : List Ms} (h : names os = a :: r) : ∃ x os', os = (a, x) :: os' ∧ names os' = r := by
  cases os with
  | nil => cases h
  | cons q os' =>
    have h1 : q.1 :: names os' = a :: r := h
    injection h1 with h2 h3
    exact ⟨q.2, os', by rw [← h2], h3⟩
theorem names_nil {os : List (Ms × Value)} (h : names os = []) : os = [] := by
  cases os with
  | nil => rfl
  | cons q os' => cases h
theorem names_two {os : List (Ms × Value)} {a b : Ms} (h : names os = [a, b]) : ∃ x y, os = [(a, x), (b, y)] := by
  obtain ⟨x, o1, rfl, h1⟩ := names_cons h
  obtain ⟨y, o2, rfl, h2⟩ := names_cons h1
  rw [names_nil h2]
  exact ⟨x, y, rfl⟩
theorem names_one {os : List (Ms × Value)} {a : Ms} (h : names os = [a]) : ∃ x, os = [(a, x)] := by
  obtain ⟨x, o1, rfl, h1⟩ := names_cons h
  rw [names_nil h1]
  exact ⟨x, rfl⟩
set_option maxRecDepth 20000 in
set_option maxHeartbeats 4000000 in
theorem awake_any (w : World) : Calls Try.prog 10 #[] w (Holds w) := by
  have HN : Calls Try.prog 9 #[.int .i64 2] w fun e w' => e = .returned (.tuple #[.pointer (some ⟨w.heap.size, 0, none⟩), .int .i64 0]) ∧ BagAt w' w.heap.size w.heap.size 2 (.slice none 0 0) [] ∧ Below w.heap.size w w' := new_yes (base := w.heap.size) 2 w (by omega) (by omega) (Nat.le_refl _)
  have HN0 := Lib.hid (fun W => new_no 0 W (.inl (by omega)))
  go_enter Try.func10, Try.ntmps10
  go_upto_region 2 with (go_at_call 9; refine HN.mono ?_; rintro x W1 ⟨rfl, hb1, b1⟩)
  go_upto_region 5 with (go_at_call 9; refine (HN0.out _).mono ?_; rintro x W2 ⟨rfl, rfl⟩)
  obtain ⟨p, hp⟩ : ∃ p, p = w.heap.size := ⟨_, rfl⟩
  rw [← hp] at hb1 b1 ⊢
  have Hp := Lib.hid hp
  have e1 : ∀ args w, (callFunc 23 args).run Try.prog w = .ok (.enter 23 args) w := enters_of Try.func23 (by kernel_rfl) rfl
  have e2 : ∀ args w, (callFunc 20 args).run Try.prog w = .ok (.enter 20 args) w := enters_of Try.func20 (by kernel_rfl) rfl
  clear HN HN0 hp
  refine wp_region_list ?_
  refine wpList_pure (v := .pointer (some ⟨p, 0, none⟩)) rfl rfl ?_
  simp only [Act.put, List.setIfInBounds_toArray, List.set_cons_zero, List.set_cons_succ]
  refine wpList_call_run (vs := #[.int .i64 1]) e1 rfl (one_any 1 _) ?_
  rintro x W3 ⟨rfl, b3⟩
  refine ⟨_, rfl, ?_⟩
  simp only [Act.put, List.setIfInBounds_toArray, List.set_cons_zero, List.set_cons_succ]
  refine wpList_call_run (vs := #[.int .i64 2]) e1 rfl (one_any 2 _) ?_
  rintro x W4 ⟨rfl, b4⟩
  refine ⟨_, rfl, ?_⟩
  simp only [Act.put, List.setIfInBounds_toArray, List.set_cons_zero, List.set_cons_succ]
  obtain ⟨W5, sl, r5, b5⟩ := slice_two W4
  refine wpList_value rfl (exec_slice2 (x := mval (oneM 1) zv) (y := mval (oneM 2) zv) rfl rfl sl) ?_
  simp only [Act.put, List.setIfInBounds_toArray, List.set_cons_zero, List.set_cons_succ]
  have hb5 := ((hb1.below b3).below b4).below b5
  have hz1 : p ≤ W2.heap.size := by rw [Hp.out]; exact b1.size
  have hB5 : Below p w W5 := ((b1.trans (b3.mono hz1)).trans (b4.mono (Nat.le_trans hz1 b3.size))).trans (b5.mono (Nat.le_trans hz1 (Nat.le_trans b3.size b4.size)))
  refine wpList_call_run (vs := #[.pointer (some ⟨p, 0, none⟩), .slice (some ⟨W4.heap.size, 0, none⟩) 2 2]) e2 rfl (put_any hb5 r5 (by omega) (fun q hq => by
    simp only [List.mem_cons, List.not_mem_nil, or_false] at hq
    rcases hq with rfl | rfl <;> exact ⟨by decide, by decide⟩)) ?_
  rintro x W6 ⟨rfl, os, v6, hos, hb6, hO6, -, -⟩
  refine ⟨_, rfl, ?_⟩
  simp only [Act.put, List.setIfInBounds_toArray, List.set_cons_zero, List.set_cons_succ]
  refine wpList_pure (v := .int .i64 0) rfl rfl (wpList_nil ?_)
  simp only [Act.put, List.setIfInBounds_toArray, List.set_cons_zero, List.set_cons_succ]
  obtain ⟨x1, x2, rfl⟩ := names_two (show names os = [oneM 1, oneM 2] from hos)
  have hB6 : Below p w W6 := hB5.trans (hO6.below (B := p) hb5.ge (by rw [Hp.out]; exact hB5.size))
  have hb6' : BagAt W6 p p 2 v6 [(oneM 1, x1), (oneM 2, x2)] := hb6
  have HB6 := Lib.hid hB6
  have Hb6 := Lib.hid hb6'
  clear hb1 b1 b3 b4 b5 r5 sl hb5 hB5 hos hb6 hO6 hB6 hb6' e1 e2
  have HD := dbl_yes Hb6.out (i := 0) (q := (oneM 1, x1)) rfl
  go_upto_region 7 with (go_at_call 22; refine HD.mono ?_; rintro x W7 ⟨rfl, os7, v7, hos7, hb7, hO7, -, -⟩)
  obtain ⟨x3, rfl⟩ := names_one hos7
  have hb7' : BagAt W7 p p 2 v7 [(oneM 2, x2), (oneM 1, x3)] := hb7
  have HB7 := Lib.hid (HB6.out.trans (hO7.below (B := p) Hb6.out.ge (by rw [Hp.out]; exact HB6.out.size)))
  have Hb7 := Lib.hid hb7'
  clear HD hos7 hb7 hO7 hb7' HB6 Hb6
  have HAl := allb_any Hb7.out
  go_upto_region 8 with (go_at_call 13; refine HAl.mono ?_; rintro x W8 ⟨va, oa, rfl, hna, hoa, b8⟩; obtain ⟨y1, y2, rfl⟩ := names_two (show names oa = [oneM 2, oneM 1] from hna); obtain ⟨A8, c8, hva, -, hrd8, hbk8⟩ := hoa.rd; have HVA := Lib.hid hva; rw [hva])
  have hb8 := Hb7.out.below b8
  have HB8 := Lib.hid (HB7.out.trans (b8.mono (by rw [Hp.out]; exact HB7.out.size)))
  have Hb8 := Lib.hid hb8
  have HRd := Lib.hid hrd8
  have HOa := Lib.hid hoa
  have hs78 : W7.heap.size ≤ W8.heap.size := b8.size
  have HFr := Lib.hid (show ∀ b off, A8 = some ⟨b, off, none⟩ → W7.heap.size ≤ b ∧ b < W8.heap.size from fun b off e => World.ownsRow.lt hoa.row b (hbk8 b off e))
  have HV7 := Lib.hid (show ∀ k, bX p v7 k → k < W7.heap.size from fun k hk => by
    rcases hk with e | e
    · rw [e]; exact Hb7.out.ptr.lt
    · exact (World.ownsRow.lt Hb7.out.row k e).2)
  clear HAl hna hoa b8 hva hrd8 hbk8 hb8 HB7 Hb7
  have HT := take_yes Hb8.out (i := 1) (q := (oneM 1, x3)) rfl
  go_upto_region 9 with (first | (go_at_call 21; refine HT.mono ?_; rintro x W9 ⟨rfl, v9, hb9, hO9, hv9⟩; obtain ⟨Wa, a9, n9, hst9⟩ := alloc_new W9; obtain ⟨Wb, st9, m9⟩ := hst9 (oneM 1) x3 (Hb8.out.ents (oneM 1, x3) (by simp)).msg.one; have HN9 := Lib.hid m9; have HO9 := Lib.hid hO9; have Hb9 := Lib.hid hb9; clear n9 hst9 m9 hO9 hb9) | (refine wpList_alloc_run a9 rfl rfl ?_) | (refine wpList_store_run st9 rfl _ _ rfl rfl rfl ?_))
  clear HT a9 st9
  have hbb : BagAt Wb p p 2 v9 [(oneM 2, x2)] := Hb9.out.below HN9.out.below
  have HBb := Lib.hid ((HB8.out.trans (HO9.out.below (B := p) Hb8.out.ge (by rw [Hp.out]; exact HB8.out.size))).trans (HN9.out.below.mono (Nat.le_trans (by rw [Hp.out]; exact HB8.out.size) HO9.out.size)))
  have Hbb := Lib.hid hbb
  have HRb := Lib.hid (show RdC Wb A8 2 23 (mcl [(oneM 2, y1), (oneM 1, y2)]) from (HRd.out.rd.oth HO9.out (fun b off e c => by
    have h1 := (HFr.out b off e).1
    have h2 := HV7.out b c
    omega)).below HN9.out.below)
  have hk9 : Whole Wb W9.heap.size 47 (mcs (oneM 1) x3) := HN9.out.whole
  have HT2 := take_no hbb (i := 1) (.inr (by simp))
  clear hbb hv9
  go_upto_region 10 with (first | (go_at_call 21; refine HT2.mono ?_; rintro x Wc ⟨rfl, bc⟩; obtain ⟨Wd, ad, nd, hstd⟩ := alloc_new Wc; obtain ⟨We, ste, me⟩ := hstd zms zv rfl; have HBe := Lib.hid (bc.trans (me.below.mono bc.size)); clear nd hstd me bc) | (refine wpList_alloc_run ad rfl rfl ?_) | (refine wpList_store_run ste rfl _ _ rfl rfl rfl ?_))
  clear HT2 ad ste
  have HL := len_any (Hbb.out.below HBe.out)
  obtain ⟨b, off, hA8, hbl, hcells⟩ := (HRb.out.below HBe.out).at_ (by omega)
  have f0 := hcells 5 (.int .i64 2) rfl
  have f1 := hcells 28 (.int .i64 1) rfl
  have f2 : We.cell? ⟨W9.heap.size, 5, none⟩ = some (.int .i64 1) := (hk9.below HBe.out).cell 5
  have HF := Lib.hid (show Below p w We from HBb.out.trans (HBe.out.mono (by rw [Hp.out]; exact HBb.out.size)))
  subst hA8
  clear hcells hk9 hbl HRb HFr HRd
  go_wp2_with (go_at_call 12; refine HL.mono ?_; rintro x Wf ⟨rfl, rfl⟩)
  go_ret
  exact ⟨rfl, by rw [← Hp.out]; exact HF.out⟩
end Go.Proofs.Ytgkhjmdghmpfcaa
