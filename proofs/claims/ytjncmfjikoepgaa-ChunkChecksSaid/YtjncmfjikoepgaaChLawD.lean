/-
  The walk of the law ChunkCuts: it says true, whatever came in, and nothing that was there is written over.
-/
import Derived.Test.YtjncmfjikoepgaaChCu
namespace Go.Proofs.Ytjncmfjikoepgaa
open Go.RowKit

/-- What Of, and the document's Sums, tell: numbers of the call's own. -/
def OfG (n : Nat) (L : List Int) (er sz : Int) (V : World) (e : Ending) (w' : World) : Prop :=
  ∃ A c, e = .returned (.tuple #[.agg #[.int .i64 sz, .slice A n c], .int .i64 er]) ∧ OwnV 3 w' V.heap.size (.slice A n c) (ivs L) ∧ RdV w' A n (ivs L) ∧ Below V.heap.size V w'
def SumsG (n : Nat) (L : List Int) (er : Int) (V : World) (e : Ending) (w' : World) : Prop :=
  ∃ A c, e = .returned (.tuple #[.slice A n c, .int .i64 er]) ∧ OwnV 3 w' V.heap.size (.slice A n c) (ivs L) ∧ RdV w' A n (ivs L) ∧ Below V.heap.size V w'
theorem ofG_any (s : ByteArray) (hs : s.size ≤ 1000000) : ∃ n L er sz, n ≤ 820 ∧ List.length L = n ∧ ((er = 0 ∧ sz = (s.size : Int)) ∨ (er = 100 ∧ sz = 0)) ∧ (∀ V, Calls Try.prog 9 #[.string s] V (OfG n L er sz V)) ∧ (∀ V, Calls Try.prog 10 #[.string s] V (SumsG n L er V)) := by
  by_cases h : s.size ≤ 65536
  · refine ⟨cnt s.size, sms s, 0, s.size, cnt_le h, sms_length s, .inl ⟨rfl, rfl⟩, fun V => of_yes s V h, fun V => (refSums_any s V hs).mono fun e w' ⟨h1, h2⟩ => ?_⟩
    rcases h1 with ⟨_, v, rfl, ho⟩ | ⟨h1, _⟩
    · obtain ⟨A, c, rfl, _, _, hr⟩ := OwnV.shape ho (n := cnt s.size) (by rw [ivs_length, sms_length])
      exact ⟨A, c, rfl, ho, hr, h2⟩
    · exact absurd h h1
  · refine ⟨0, [], 100, 0, by omega, rfl, .inr ⟨rfl, rfl⟩, fun V => (of_no s V h hs).mono fun e w' ⟨h1, h2⟩ => ⟨none, 0, h1, OwnV.nil, RdV.nil, h2⟩, fun V => (refSums_any s V hs).mono fun e w' ⟨h1, h2⟩ => ?_⟩
    rcases h1 with ⟨h1, _⟩ | ⟨_, h1⟩
    · exact absurd h1 h
    · exact ⟨none, 0, h1, OwnV.nil, RdV.nil, h2⟩
theorem cutG_any (s : ByteArray) (i : Int) (hs : s.size ≤ 1000000) (hi : -9223372036854775808 ≤ i ∧ i ≤ 9223372036854775807) : ∃ (t : ByteArray) (r : Int), (∀ V, Calls Try.prog 11 #[.string s, .int .i64 i] V fun e w' => e = .returned (.tuple #[.string t, .int .i64 r]) ∧ Below V.heap.size V w') ∧
    (∀ V, Calls Try.prog 12 #[.string s, .int .i64 i] V fun e w' => e = .returned (.tuple #[.string t, .int .i64 r]) ∧ V = w') := by
  by_cases h : s.size ≤ 65536 ∧ 0 ≤ i ∧ i < cnt s.size
  · refine ⟨pce s i.toNat, 0, fun V => (cut_any s i V hs hi).mono fun e w' ⟨h1, h2⟩ => ?_, fun V => (refCut_any s i V hs).mono fun e w' ⟨h1, h2⟩ => ?_⟩
    · rcases h1 with ⟨_, h1⟩ | ⟨h1, _⟩
      · exact ⟨h1, h2⟩
      · exact absurd h h1
    · rcases h1 with ⟨_, h1⟩ | ⟨h1, _⟩
      · exact ⟨h1, h2⟩
      · exact absurd h h1
  · refine ⟨⟨#[]⟩, 100, fun V => cut_no s i V hs hi h, fun V => (refCut_any s i V hs).mono fun e w' ⟨h1, h2⟩ => ?_⟩
    rcases h1 with ⟨h1, _⟩ | ⟨_, h1⟩
    · exact absurd h1 h
    · exact ⟨h1, h2⟩
theorem OwnV.setN {I : TypeId} {w : World} {base g n c : Nat} {l : List Value} (hn : l.length = n) (h : OwnV I w base (.slice (some ⟨g, 0, none⟩) n c) l) (j : Nat) (u : Value) :
    OwnV I (w.setCell ⟨g, j, none⟩ u) base (.slice (some ⟨g, 0, none⟩) n c) (l.set j u) := by
  unfold OwnV at h ⊢
  rw [hn] at h
  rw [List.length_set, hn]
  exact (World.ownsRow.stored h j u).1
theorem OwnV.freeN {I : TypeId} {w : World} {base g n c : Nat} {l : List Value} (hn : l.length = n) (h : OwnV I w base (.slice (some ⟨g, 0, none⟩) n c) l) (j : Nat) : w.frozen? ⟨g, j, none⟩ = false := by
  unfold OwnV at h
  rw [hn] at h
  exact World.ownsRow.frozenAt h j
theorem ivs_set (l : List Int) (j : Nat) (x : Int) : (ivs l).set j (.int .i64 x) = ivs (l.set j x) := by rw [ivs, ivs, List.map_set]
set_option maxRecDepth 20000 in
set_option maxHeartbeats 4000000 in
theorem chunkCuts_walk (s : ByteArray) (i : Int) (w : World) (hi : -9223372036854775808 ≤ i ∧ i ≤ 9223372036854775807) : Calls Try.prog 3 #[.string s, .int .i64 i] w (Holds w) := by
  by_cases hb : 131072 < s.size
  · go_enter Try.func3, Try.ntmps3
    go_wp2
    go_ret
    exact ⟨rfl, Below.refl _ _⟩
  obtain ⟨n, L, er, sz, hn8, hL, hcase, hO, hS⟩ := ofG_any s (by omega)
  obtain ⟨t, r, hC, hD⟩ := cutG_any s i (by omega) hi
  have HO := Lib.hid hO
  have HS := Lib.hid hS
  have HC := Lib.hid hC
  have HD := Lib.hid hD
  have HLl := Lib.hid hL
  clear hO hS hC hD hL
  unfold OfG at HO
  unfold SumsG at HS
  have hq : (er = 0 ∧ (sz == (s.size : Int)) = true) ∨ (er = 100 ∧ (sz == 0) = true) := by
    rcases hcase with ⟨h1, h2⟩ | ⟨h1, h2⟩
    · exact .inl ⟨h1, by rw [beq_iff_eq]; exact h2⟩
    · exact .inr ⟨h1, by rw [beq_iff_eq]; exact h2⟩
  clear hcase
  rcases hq with ⟨rfl, hsz⟩ | ⟨rfl, hsz⟩
  all_goals (
    go_enter Try.func3, Try.ntmps3
    go_wp2_with fail
    refine (HO.out w).mono ?_
    rintro e w1 ⟨A, c, rfl, o1, r1, b1⟩
    have K2 := Whole.new w1 #[.int .i64 sz, .slice A n c] 24
    have b12 : Below w1.heap.size w1 (w1.alloc (.cells #[.int .i64 sz, .slice A n c] 24)) := (Below.refl _ _).alloc (Nat.le_refl _) _
    have B2 := b1.trans (b12.mono b1.size)
    have o2 : OwnV 3 (w1.alloc (.cells #[.int .i64 sz, .slice A n c] 24)) w.heap.size (.slice A n c) (ivs L) := o1.below b12
    have r2 := r1.below b12
    have hlt2 : ∀ q, (Value.slice A n c).ownBlock = some q → w.heap.size ≤ q ∧ q < w1.heap.size := o1.lt
    go_wp2_with fail
    obtain ⟨g5, hg5⟩ : ∃ g5, g5 = w1.heap.size := ⟨_, rfl⟩
    rw [← hg5] at K2 hlt2 ⊢
    generalize w1.alloc (.cells _ 24) = W2 at K2 b12 B2 o2 r2 ⊢
    have H2 := Lib.hid (And.intro K2 (And.intro B2 (And.intro o2 (And.intro r2 hlt2))))
    clear K2 b12 B2 o2 r2 hlt2 o1 r1 b1 hg5
    refine (HS.out W2).mono ?_
    rintro e w3 ⟨A3, c3, rfl, o3, r3, b3⟩
    have H3 := Lib.hid (And.intro o3 r3)
    clear o3 r3
    go_wp2_with fail
    refine (HC.out w3).mono ?_
    rintro e w4 ⟨rfl, b4⟩
    have B4 := b3.trans (b4.mono b3.size)
    have HB4 := Lib.hid (And.intro B4 b4)
    have HI := ints_any A A3 n c n c3 L L w4 (H2.out.2.2.2.1.below B4) (H3.out.2.below b4) (by omega)
    rw [decide_eq_true (show L = L from rfl)] at HI
    have k := H2.out.1.below B4
    have k0 := k.cell 0
    have k1 := k.cell 1
    simp only [List.getElem?_cons_succ, List.getElem?_cons_zero] at k0 k1
    clear k B4 b3 b4
    go_wp2_with fail
    refine (HD.out w4).mono ?_
    rintro e w4' ⟨rfl, hw4⟩
    subst hw4
    go_wp2_with (go_at_call 13; refine HI.mono ?_; rintro e w5 ⟨rfl, b5⟩)
    clear HI k0 k1
    obtain ⟨W5, hW5⟩ : ∃ W5, W5 = w5 := ⟨_, rfl⟩
    subst hW5
    have B5 : Below W2.heap.size W2 W5 := HB4.out.1.trans (b5.mono HB4.out.1.size)
    have B35 := HB4.out.2.trans (b5.mono HB4.out.2.size)
    have H5 := Lib.hid (show Whole W5 g5 24 [.int .i64 sz, .slice A n c] ∧ OwnV 3 W5 w.heap.size (.slice A n c) (ivs L) ∧ RdV W5 A3 n (ivs L) ∧ Below w.heap.size w W5 ∧ ∀ q, (Value.slice A n c).ownBlock = some q → ∀ a, A3 = some a → a.block ≠ q from
      ⟨H2.out.1.below B5, H2.out.2.2.1.below B5, H3.out.2.below B35, H2.out.2.1.trans (B5.mono H2.out.2.1.size), fun q hq a ha e => by
        have h1 := (H2.out.2.2.2.2 q hq).2
        have h2 := H2.out.1.lt
        subst ha
        have h3 := (H3.out.1.lt a.block rfl).1
        omega⟩)
    clear B5 B35 HB4 H3 H2 b5
    go_loopw [15] (fun i wr => ∃ j : Nat, j ≤ n ∧ i = .int .i64 (j : Int) ∧ Hid (W5.grownBy wr (Value.slice A n c).ownBlock ∧ ∃ M : List Int, M.length = n ∧ OwnV 3 wr w.heap.size (.slice A n c) (ivs M))) (fun i _ => n - (intOf i).toNat)
    case atStart => exact ⟨0, by omega, rfl, Lib.hid ⟨grown_refl _ _, L, HLl.out, H5.out.2.1⟩⟩
    case round =>
      obtain ⟨j, hj, rfl, hW⟩ := hrel
      have hK : Whole wr g5 24 [.int .i64 sz, .slice A n c] := H5.out.1.keep (hW.out.1.block _ H5.out.1.lt (fun e => OwnV.apart H5.out.2.1 H5.out.1 (by decide) e.symm))
      have k1 := hK.cell 1
      simp only [List.getElem?_cons_succ, List.getElem?_cons_zero] at k1
      by_cases hlt : j < n
      · obtain ⟨M, hM, oM⟩ := hW.out.2
        have hMn : (ivs M).length = n := by rw [ivs_length, hM]
        obtain ⟨ga, ca, hv, hga⟩ := oM.formV hMn (by omega)
        injection hv with e1 e2 e3
        subst e1
        clear e2 e3
        have hf := OwnV.freeN hMn oM j
        have os := OwnV.setN hMn oM j (.int .i64 (-7))
        rw [ivs_set] at os
        obtain ⟨A9, c9, e9, _, _, r9⟩ := OwnV.shape oM hMn
        injection e9 with e9 _ _
        subst e9
        obtain ⟨b9, f9, x9, e9, _, _, hc9⟩ := r9.cell hlt
        injection e9 with e9
        injection e9 with e9 e10
        subst e9 e10
        rw [Nat.zero_add] at hc9
        have gs := grown_set wr ga j (.int .i64 (-7))
        have HS2 := Lib.hid (show W5.grownBy (wr.setCell ⟨ga, j, none⟩ (.int .i64 (-7))) (some ga) ∧ ∃ M : List Int, M.length = n ∧ OwnV 3 (wr.setCell ⟨ga, j, none⟩ (.int .i64 (-7))) w.heap.size (.slice (some ⟨ga, 0, none⟩) n c) (ivs M) from ⟨grown_trans hW.out.1 gs, _, by rw [List.length_set]; exact hM, os⟩)
        clear os gs r9 oM hMn hM hK hga
        go_wp2
        go_roundw
        case rel => exact ⟨j + 1, by omega, by go_num, HS2⟩
        case measure => simp [intOf]; omega
      · obtain rfl : j = n := by omega
        have r6 : RdV wr A3 j (ivs L) := ⟨H5.out.2.2.1.len, fun hn => by
          obtain ⟨b, off, e, hlt2, hc⟩ := H5.out.2.2.1.at_ hn
          refine ⟨b, off, e, Nat.lt_of_lt_of_le hlt2 hW.out.1.size, fun q x hx => (World.cell?_of_block (a := ⟨b, off + q, none⟩) (hW.out.1.block b hlt2 (fun e2 => H5.out.2.2.2.2 b e2.symm _ e rfl))).trans (hc q x hx)⟩⟩
        have B6 : Below w.heap.size w wr := H5.out.2.2.2.1.grown hW.out.1 H5.out.2.2.2.1.size fun q hq => (H5.out.2.1.lt q hq).1
        have H6 := Lib.hid (And.intro r6 B6)
        clear r6 B6 hK
        obtain ⟨W6, hW6⟩ : ∃ W6, W6 = wr := ⟨_, rfl⟩
        subst hW6
        go_wp2_with fail
        refine (HO.out W6).mono ?_
        rintro e w7 ⟨A7, c7, rfl, o7, r7, b7⟩
        have K8 := Whole.new w7 #[.int .i64 sz, .slice A7 j c7] 24
        have b78 : Below w7.heap.size w7 (w7.alloc (.cells #[.int .i64 sz, .slice A7 j c7] 24)) := (Below.refl _ _).alloc (Nat.le_refl _) _
        have B8 := b7.trans (b78.mono b7.size)
        have r8 := r7.below b78
        have H8 := Lib.hid (And.intro K8 (And.intro B8 r8))
        clear K8 b78 B8 r8 o7 r7 b7 k1
        go_upto_region 16 with (fail)
        generalize w7.alloc (.cells _ 24) = W8 at H8 ⊢
        go_wp2_with (first | (go_at_call 14; refine (cuts_holds _).mono ?_; rintro e w9 ⟨rfl, b9⟩; have q9 := (H8.out.1.below b9).cell 1; simp only [List.getElem?_cons_succ, List.getElem?_cons_zero] at q9; have B9 := H8.out.2.1.trans (b9.mono H8.out.2.1.size); have HI2 := ints_any A7 A3 j c7 j c3 L L w9 (H8.out.2.2.below b9) (H6.out.1.below B9) (by omega); rw [decide_eq_true (show L = L from rfl)] at HI2) | (go_at_call 13; refine HI2.mono ?_; rintro e w10 ⟨rfl, b10⟩))
        go_ret
        have q1 := B9.trans (b10.mono B9.size)
        exact ⟨rfl, H6.out.2.trans (q1.mono H6.out.2.size)⟩)
end Go.Proofs.Ytjncmfjikoepgaa
