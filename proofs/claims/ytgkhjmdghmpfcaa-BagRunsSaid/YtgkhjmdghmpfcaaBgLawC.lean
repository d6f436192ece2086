/-
  BagDoubles: the walk of the law.
-/
import Derived.Test.YtgkhjmdghmpfcaaBgLawB
namespace Go.Proofs.Ytgkhjmdghmpfcaa
open Go.RowKit

theorem lastN_all {α : Type} {n : Nat} {l : List α} (h : l.length ≤ n) : lastN n l = l := by
  unfold lastN
  rw [show l.length - n = 0 by omega, List.drop_zero]
set_option maxRecDepth 20000 in
set_option maxHeartbeats 4000000 in
theorem bagDoubles_walk (A : Option Addr) (n c : Nat) (i : Int) (w : World) (hm : IsMs w A n) : Calls Try.prog 7 #[.slice A n c, .int .i64 i] w (Holds w) := by
  obtain ⟨ms, hr⟩ := hm
  have hrs := bop_slice w ⟨0, 0, A, n, c, ms⟩ hr
  have HL := large_any (c := 1) hrs
  have b0 : Below w.heap.size w (w.alloc (.cells (bcs ⟨0, 0, A, n, c, ms⟩).toArray 33)) := (Below.refl _ _).alloc (Nat.le_refl _) _
  have HB0 := Lib.hid b0
  have HR := Lib.hid hr
  clear hrs b0 hr
  unfold bcs at *
  simp only at *
  go_enter Try.func7, Try.ntmps7
  by_cases hn : 200 ≤ n
  · have hni : (200 : Int) ≤ (n : Int) := by omega
    go_wp2_with (go_at_call 8; refine HL.mono ?_; rintro x W1 ⟨q, rfl, hq, b1⟩; have HF := Lib.hid (HB0.out.trans (b1.mono HB0.out.size)); clear hq b1; cases q)
    all_goals
      go_ret
      exact ⟨rfl, HF.out⟩
  · have hni : ¬ ((200 : Int) ≤ (n : Int)) := by omega
    have hni2 : (n : Int) < 200 := by omega
    go_upto_region 3 with (go_at_call 8; refine HL.mono ?_; rintro x W1 ⟨q, rfl, hq, b1⟩; have HF := Lib.hid (HB0.out.trans (b1.mono HB0.out.size)); have HQ := Lib.hid hq; clear hq b1; cases q)
    · have hS : SmallB [⟨0, 0, A, n, c, ms⟩] := by first | exact HQ.out rfl | exact HQ.out trivial
      have hsm : ∀ q ∈ ms, SmallM q.1 := (hS.2 _ (List.mem_singleton.2 rfl)).2
      clear HL HQ hS
      have hN : Calls Try.prog 9 #[.int .i64 200] W1 fun e w' => e = .returned (.tuple #[.pointer (some ⟨W1.heap.size, 0, none⟩), .int .i64 0]) ∧ BagAt w' W1.heap.size w.heap.size 200 (.slice none 0 0) [] ∧ Below W1.heap.size W1 w' := new_yes (base := w.heap.size) 200 W1 (by omega) (by omega) HF.out.size
      go_upto_region 6 with (first | (go_at_call 9; refine hN.mono ?_; rintro x W2 ⟨rfl, hb2, b2⟩; have HB2 := Lib.hid (HF.out.trans (b2.mono HF.out.size)); have Hb2 := Lib.hid hb2; clear b2 hb2) | (go_at_call 20; refine (put_any Hb2.out (HR.out.below HB2.out) (by omega) hsm).mono ?_; rintro x W3 ⟨rfl, hp⟩; have HP := Lib.hid hp; clear hp))
      obtain ⟨p, hp⟩ : ∃ p, p = W1.heap.size := ⟨_, rfl⟩
      obtain ⟨os, v3, hos, hb3, hO3, -, -⟩ := HP.out
      have hnl := HR.out.len
      have hol : os.length < 200 := by
        have h1 := congrArg List.length hos
        have h2 := real_len (names ms)
        rw [names_len] at h1 h2
        omega
      rw [List.nil_append, lastN_all (by omega)] at hb3
      rw [← hp] at hb3 hO3 ⊢
      have HB3 := Lib.hid (HB2.out.trans (hO3.below (B := w.heap.size) (by rw [hp]; exact Hb2.out.ge) HB2.out.size))
      have hsm3 : ∀ q ∈ os, SmallM q.1 := hb3.small
      have Hb3 := Lib.hid hb3
      have Hol := Lib.hid hol
      obtain ⟨L, hL⟩ : ∃ L, L = os.length := ⟨_, rfl⟩
      have HLe := Lib.hid hL
      clear HP hN Hb2 hos hO3 hb3 hnl HR hsm hp HF HB0 HB2
      have hLen := len_any Hb3.out
      rw [← hL] at hLen
      clear hL
      go_upto_region 7 with (go_at_call 12; refine hLen.mono ?_; rintro x W4 ⟨rfl, rfl⟩)
      clear hLen
      by_cases hout : i < 0 ∨ (L : Int) ≤ i
      · have hD := Lib.hid (fun (W : World) (h : Below W4.heap.size W4 W) => dbl_no (Hb3.out.below h) (i := i) (by rw [← HLe.out]; exact hout))
        have hLn := Lib.hid (fun (W : World) (h : Below W4.heap.size W4 W) => (by have := len_any (Hb3.out.below h); rw [← HLe.out] at this; exact this : Calls Try.prog 12 #[.pointer (some ⟨p, 0, none⟩)] W fun e w' => e = .returned (.int .i64 (L : Int)) ∧ w' = W))
        have hAw := awake_any W4
        have hgo : ∀ (q : Bool), q = true → q = true := fun _ h => h
        clear hgo
        by_cases h0 : i < 0
        · clear hout
          go_wp2_with (first | (go_at_call 10; refine hAw.mono ?_; rintro x W5 ⟨rfl, b5⟩; have HB5 := Lib.hid b5; clear b5) | (go_at_call 22; refine (hD.out _ HB5.out).mono ?_; rintro x W6 ⟨rfl, b6⟩; have HB6 := Lib.hid (HB5.out.trans (b6.mono HB5.out.size)); clear b6) | (go_at_call 12; refine (hLn.out _ HB6.out).mono ?_; rintro x W7 ⟨rfl, rfl⟩))
          go_ret
          exact ⟨by simp, HB3.out.trans (HB6.out.mono HB3.out.size)⟩
        · have h1 : (L : Int) ≤ i := by omega
          clear hout
          go_wp2_with (first | (go_at_call 10; refine hAw.mono ?_; rintro x W5 ⟨rfl, b5⟩; have HB5 := Lib.hid b5; clear b5) | (go_at_call 22; refine (hD.out _ HB5.out).mono ?_; rintro x W6 ⟨rfl, b6⟩; have HB6 := Lib.hid (HB5.out.trans (b6.mono HB5.out.size)); clear b6) | (go_at_call 12; refine (hLn.out _ HB6.out).mono ?_; rintro x W7 ⟨rfl, rfl⟩))
          go_ret
          exact ⟨by simp, HB3.out.trans (HB6.out.mono HB3.out.size)⟩
      · obtain ⟨j, rfl⟩ : ∃ j : Nat, i = (j : Int) := ⟨i.toNat, by omega⟩
        have hj : j < L := by omega
        have hj0 : ¬ ((j : Int) < 0) := by omega
        have hj1 : ¬ ((L : Int) ≤ (j : Int)) := by omega
        clear hout
        have hjo : j < os.length := by rw [← HLe.out]; exact hj
        obtain ⟨⟨m, e0⟩, hq⟩ : ∃ q, os[j]? = some q := ⟨_, List.getElem?_eq_getElem hjo⟩
        have hes : m.es.length ≤ 1000000 := by have := (hsm3 _ (List.mem_of_getElem? hq)).1; simp only at this; omega
        have hD := dbl_yes Hb3.out hq
        have Hq := Lib.hid hq
        have Hjo := Lib.hid hjo
        have Hes := Lib.hid hes
        clear hq hjo hes hsm3
        go_upto_region 10 with (go_at_call 22; refine hD.mono ?_; rintro x W5 ⟨rfl, os5, v5, hos5, hb5, hO5, -, -⟩)
        obtain ⟨e1, rfl⟩ := names_one hos5
        rw [lastN_all (by rw [List.length_append, List.length_singleton]; have := Hol.out; omega)] at hb5
        have HB5 := Lib.hid (HB3.out.trans (hO5.below (B := w.heap.size) Hb3.out.ge HB3.out.size))
        have Hb5 := Lib.hid hb5
        have hqL : (os ++ [(m, e1)])[L]? = some (m, e1) := by rw [HLe.out]; simp
        have hT1 := take_yes Hb5.out hqL
        rw [show (os ++ [(m, e1)]).eraseIdx L = os by rw [HLe.out, List.eraseIdx_append_of_length_le (Nat.le_refl _)]; simp] at hT1
        have he1 : e1.oneCell' = true := (Hb5.out.ents (m, e1) (by simp)).msg.one
        have he0 : e0.oneCell' = true := (Hb3.out.ents (m, e0) (List.mem_of_getElem? Hq.out)).msg.one
        clear hD hos5 hb5 hO5 hqL
        go_upto_region 11 with (first | (go_at_call 21; refine hT1.mono ?_; rintro x W8 ⟨rfl, v8, hb8, hO8, hv8⟩; obtain ⟨W8', a8, n8, hst8⟩ := alloc_new W8; obtain ⟨W9, st8, n9⟩ := hst8 m e1 he1; have HN9 := Lib.hid n9; have HO8 := Lib.hid hO8; have Hb8 := Lib.hid hb8; have HV8 := Lib.hid hv8; clear n8 hst8 n9 hO8 hb8 hv8) | (refine wpList_alloc_run a8 rfl rfl ?_) | (refine wpList_store_run st8 rfl _ _ rfl rfl rfl ?_))
        clear hT1 a8 st8
        have Hb9 := Lib.hid (Hb8.out.below HN9.out.below)
        have HB8 := Lib.hid (HB5.out.trans (HO8.out.below (B := w.heap.size) Hb5.out.ge HB5.out.size))
        have HB9 := Lib.hid (HB8.out.trans (HN9.out.below.mono HB8.out.size))
        have hT2 := take_yes Hb9.out Hq.out
        go_upto_region 12 with (first | (go_at_call 21; refine hT2.mono ?_; rintro x Wa ⟨rfl, va, hba, hOa, hva⟩; obtain ⟨Wa', aa, na, hsta⟩ := alloc_new Wa; obtain ⟨Wz, sta, nz⟩ := hsta m e0 he0; have HNz := Lib.hid nz; have HOa := Lib.hid hOa; have Hba := Lib.hid hba; clear na hsta nz hOa hba hva) | (refine wpList_alloc_run aa rfl rfl ?_) | (refine wpList_store_run sta rfl _ _ rfl rfl rfl ?_))
        clear hT2 aa sta he0 he1
        have hbz := Hba.out.below HNz.out.below
        have HBa := Lib.hid (HB9.out.trans (HOa.out.below (B := w.heap.size) Hb9.out.ge HB9.out.size))
        have Bz := HBa.out.trans (HNz.out.below.mono HBa.out.size)
        have hpl := Hb5.out.ptr.lt
        have hs58 := HO8.out.size
        have Kx : Whole Wz W8.heap.size 47 (mcs m e1) := (HN9.out.whole.keep (HOa.out.block _ HN9.out.whole.lt (by
          rintro (c | c)
          · omega
          · rw [HV8.out] at c
            have := (World.ownsRow.lt Hb5.out.row _ c).2
            omega))).below HNz.out.below
        have Ky : Whole Wz Wa.heap.size 47 (mcs m e0) := HNz.out.whole
        have o1 : OwnE Wz w.heap.size e1 m.es := by
          have h5 := Hb5.out.ents (m, e1) (by simp)
          have h8 : OwnE W8 w.heap.size e1 m.es := h5.oth HO8.out fun k hk => Hb5.out.ep (q := (m, e1)) (by simp) hk
          have h9 := h8.below HN9.out.below
          exact (h9.oth HOa.out fun k hk => Hb9.out.eX h9 hk).below HNz.out.below
        have o0 : OwnE Wz w.heap.size e0 m.es := by
          have h9 := Hb9.out.ents (m, e0) (List.mem_of_getElem? Hq.out)
          exact (h9.oth HOa.out fun k hk => Hb9.out.eX h9 hk).below HNz.out.below
        have Mx : MsgR Wz (m, e1) := OwnE.msg (p := (m, e1)) o1
        have My : MsgR Wz (m, e0) := OwnE.msg (p := (m, e0)) o0
        have hlz : (((os.eraseIdx j).length : Nat) : Int) = (L : Int) - 1 := by rw [List.length_eraseIdx, if_pos Hjo.out, ← HLe.out]; omega
        have hes := Hes.out
        have hLr : L ≤ 200 := by rw [HLe.out]; exact Hb3.out.len
        clear o1 o0 hpl hs58
        have e0' : ∀ args w, (callFunc 10 args).run Try.prog w = .ok (.enter 10 args) w := enters_of Try.func10 (by kernel_rfl) rfl
        have e1s : ∀ args w, (callFunc 17 args).run Try.prog w = .ok (.enter 17 args) w := enters_of Try.func17 (by kernel_rfl) rfl
        have e2s : ∀ args w, (callFunc 12 args).run Try.prog w = .ok (.enter 12 args) w := enters_of Try.func12 (by kernel_rfl) rfl
        refine wp_region_list ?_
        refine wpList_call_run (vs := #[]) e0' rfl (awake_any _) ?_
        rintro x Wb ⟨rfl, bb⟩
        refine ⟨_, rfl, ?_⟩
        have BB := Bz.trans (bb.mono Bz.size)
        simp only [Act.put, List.setIfInBounds_toArray, List.set_cons_zero, List.set_cons_succ]
        refine wpList_pure (v := .bool true) rfl rfl ?_
        simp only [Act.put, List.setIfInBounds_toArray, List.set_cons_zero, List.set_cons_succ]
        refine wpList_wanted (v := .int .i64 0) rfl rfl ?_
        simp only [Act.put, List.setIfInBounds_toArray, List.set_cons_zero, List.set_cons_succ]
        refine wpList_wanted (v := .bool true) rfl (exec_eql (u1 := .int .i64 0) (u2 := .int .i64 0) rfl rfl (eqr_sint _ Try.underlying25 _)) ?_
        simp only [Act.put, List.setIfInBounds_toArray, List.set_cons_zero, List.set_cons_succ]
        refine wpList_pure (v := .bool true) rfl rfl ?_
        simp only [Act.put, List.setIfInBounds_toArray, List.set_cons_zero, List.set_cons_succ]
        refine wpList_pure (v := .bool true) rfl rfl ?_
        simp only [Act.put, List.setIfInBounds_toArray, List.set_cons_zero, List.set_cons_succ]
        refine wpList_wanted (v := .int .i64 0) rfl rfl ?_
        simp only [Act.put, List.setIfInBounds_toArray, List.set_cons_zero, List.set_cons_succ]
        refine wpList_wanted (v := .bool true) rfl (exec_eql (u1 := .int .i64 0) (u2 := .int .i64 0) rfl rfl (eqr_sint _ Try.underlying25 _)) ?_
        simp only [Act.put, List.setIfInBounds_toArray, List.set_cons_zero, List.set_cons_succ]
        refine wpList_pure (v := .bool true) rfl rfl ?_
        simp only [Act.put, List.setIfInBounds_toArray, List.set_cons_zero, List.set_cons_succ]
        refine wpList_pure (v := .bool true) rfl rfl ?_
        simp only [Act.put, List.setIfInBounds_toArray, List.set_cons_zero, List.set_cons_succ]
        refine wpList_wanted (v := .int .i64 0) rfl rfl ?_
        simp only [Act.put, List.setIfInBounds_toArray, List.set_cons_zero, List.set_cons_succ]
        refine wpList_wanted (v := .bool true) rfl (exec_eql (u1 := .int .i64 0) (u2 := .int .i64 0) rfl rfl (eqr_sint _ Try.underlying25 _)) ?_
        simp only [Act.put, List.setIfInBounds_toArray, List.set_cons_zero, List.set_cons_succ]
        refine wpList_pure (v := .bool true) rfl rfl ?_
        simp only [Act.put, List.setIfInBounds_toArray, List.set_cons_zero, List.set_cons_succ]
        refine wpList_pure (v := .bool true) rfl rfl ?_
        simp only [Act.put, List.setIfInBounds_toArray, List.set_cons_zero, List.set_cons_succ]
        refine wpList_wanted (v := mval m e1) rfl (exec_load (x := .pointer (some ⟨W8.heap.size, 0, none⟩)) rfl (load_box (Kx.below bb))) ?_
        simp only [Act.put, List.setIfInBounds_toArray, List.set_cons_zero, List.set_cons_succ]
        refine wpList_wanted (v := mval m e0) rfl (exec_load (x := .pointer (some ⟨Wa.heap.size, 0, none⟩)) rfl (load_box (Ky.below bb))) ?_
        simp only [Act.put, List.setIfInBounds_toArray, List.set_cons_zero, List.set_cons_succ]
        refine wpList_callg (vs := #[mval m e1, mval m e0]) e1s rfl rfl (same_any m m e1 e0 Wb (Mx.below bb) (My.below bb) hes) ?_
        rintro x Wc ⟨rfl, bc⟩
        refine ⟨_, rfl, ?_⟩
        have BC := BB.trans (bc.mono BB.size)
        simp only [Act.put, List.setIfInBounds_toArray, List.set_cons_zero, List.set_cons_succ]
        refine wpList_pure (v := .bool true) rfl rfl ?_
        simp only [Act.put, List.setIfInBounds_toArray, List.set_cons_zero, List.set_cons_succ]
        refine wpList_pure (v := .bool true) rfl rfl ?_
        simp only [Act.put, List.setIfInBounds_toArray, List.set_cons_zero, List.set_cons_succ]
        refine wpList_wanted (v := .pointer (some ⟨p, 0, none⟩)) rfl rfl ?_
        simp only [Act.put, List.setIfInBounds_toArray, List.set_cons_zero, List.set_cons_succ]
        refine wpList_callg (vs := #[.pointer (some ⟨p, 0, none⟩)]) e2s rfl rfl (len_any ((hbz.below bb).below bc)) ?_
        rintro x Wd ⟨rfl, rfl⟩
        refine ⟨_, rfl, ?_⟩
        rw [hlz]
        simp only [Act.put, List.setIfInBounds_toArray, List.set_cons_zero, List.set_cons_succ]
        refine wpList_wanted (v := .int .i64 (L : Int)) rfl rfl ?_
        simp only [Act.put, List.setIfInBounds_toArray, List.set_cons_zero, List.set_cons_succ]
        refine wpList_wanted (v := .int .i64 ((L : Int) - 1)) rfl (by simp only [execOp]; go_simp; rw [IntKind.wrap_i64]; omega) ?_
        simp only [Act.put, List.setIfInBounds_toArray, List.set_cons_zero, List.set_cons_succ]
        refine wpList_wanted (v := .bool true) rfl (exec_eql (u1 := .int .i64 ((L : Int) - 1)) (u2 := .int .i64 ((L : Int) - 1)) rfl rfl (eqr_sint _ Try.underlying3 _)) ?_
        simp only [Act.put, List.setIfInBounds_toArray, List.set_cons_zero, List.set_cons_succ]
        refine wpList_pure (v := .bool true) rfl rfl ?_
        simp only [Act.put, List.setIfInBounds_toArray, List.set_cons_zero, List.set_cons_succ]
        refine wpList_pure (v := .bool true) rfl rfl ?_
        simp only [Act.put, List.setIfInBounds_toArray, List.set_cons_zero, List.set_cons_succ]
        refine wpList_nil ?_
        have HFF := Lib.hid BC
        clear BC BB bb bc Bz hbz Kx Ky Mx My hlz hes e0' e1s e2s
        go_wp2
        go_ret
        exact ⟨rfl, HFF.out⟩
    · go_ret
      exact ⟨rfl, HF.out⟩
end Go.Proofs.Ytgkhjmdghmpfcaa
