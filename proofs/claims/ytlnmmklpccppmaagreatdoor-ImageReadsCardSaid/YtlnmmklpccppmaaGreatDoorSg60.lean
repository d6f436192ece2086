/-
  Bytes are just this operation, heap and state, or none; what is one is laid as the same bytes: the walk of the statement.
-/
import Derived.Test.YtlnmmklpccppmaaGreatDoorSg59
import Derived.Test.YtlnmmklpccppmaaGreatDoorSg53
import Derived.Test.YtlnmmklpccppmaaGreatDoorSg47
import Derived.Test.YtlnmmklpccppmaaGreatDoorSg44
import Derived.Test.YtlnmmklpccppmaaGreatDoorSg22
import Derived.Test.YtlnmmklpccppmaaGreatDoorSg54
import Derived.Test.YtlnmmklpccppmaaGreatDoorSg37
namespace Go.Proofs.YtlnmmklpccppmaaGreatDoor
open Go.RowKit
/-- What GetHeap answers, one form for both ends: zero where the bytes are none. -/
structure UniH (w : World) (b : List UInt8) (w' : World) (H : Hp) (s : HSl) (os : List (Ob × OSl)) (er : Int) : Prop where
  bel : Below w.heap.size w w'
  own : OwnHp w' w.heap.size s os H
  is : (er = 0 ∧ GetsH b (some H)) ∨ (er = 60 ∧ H = zeroH ∧ GetsH b none)
theorem own_zero (w : World) (base : Nat) : OwnHp w base ⟨none, 0, 0, none, 0, 0⟩ [] zeroH := ⟨OwnOs.nil, rfl, OwnB.nil, rfl, by simp [zeroH]⟩
theorem GotH.uni {w w' : World} {b : List UInt8} {e : Ending} (h : GotH w b e w') : ∃ H s os er, e = .returned (.tuple #[.agg (hcs H s).toArray, .int .i64 er]) ∧ UniH w b w' H s os er := by
  obtain ⟨hb, ⟨H, s, os, he, ho, hg⟩ | ⟨he, hg⟩⟩ := h
  · exact ⟨H, s, os, 0, he, hb, ho, .inl ⟨rfl, hg⟩⟩
  · exact ⟨zeroH, ⟨none, 0, 0, none, 0, 0⟩, [], 60, he, hb, own_zero _ _, .inr ⟨rfl, rfl, hg⟩⟩
theorem UniH.same {w1 w1' w2 w2' : World} {b : List UInt8} {H K : Hp} {s t : HSl} {os ot : List (Ob × OSl)} {er fr : Int} (h : UniH w1 b w1' H s os er) (k : UniH w2 b w2' K t ot fr) : K = H ∧ fr = er := by
  rcases h.is with ⟨e1, g1⟩ | ⟨e1, h1, g1⟩ <;> rcases k.is with ⟨f1, q1⟩ | ⟨f1, k1, q1⟩
  · have := g1.uniq q1
    injection this with this
    exact ⟨this.symm, by rw [e1, f1]⟩
  · cases g1.uniq q1
  · cases g1.uniq q1
  · exact ⟨by rw [h1, k1], by rw [e1, f1]⟩
theorem UniH.small {w w' : World} {b : List UInt8} {H : Hp} {s : HSl} {os : List (Ob × OSl)} {er : Int} (h : UniH w b w' H s os er) : SmallH H ∧ IntsH H := by
  rcases h.is with ⟨_, g⟩ | ⟨_, e, _⟩
  · exact ⟨rightI_small g.1.right, g.1.ints⟩
  · subst e
    exact ⟨smallI_zero, fun x hx => by cases hx⟩
/-- What is laid of it. -/
theorem UniH.laid {w w' w2 w3 : World} {b : List UInt8} {H : Hp} {s : HSl} {os : List (Ob × OSl)} {er : Int} {e : Ending} (h : UniH w b w' H s os er) (k : PutHP w2 H e w3) :
    ∃ A m c fr Y, e = .returned (.tuple #[.slice A m c, .int .i64 fr]) ∧ Below w2.heap.size w2 w3 ∧ Rd w3 A m Y ∧ (er = 0 → Y = b) := by
  obtain ⟨hb, ⟨hR, v, he, ho⟩ | ⟨hR, he⟩⟩ := k
  · obtain ⟨A, c, rfl, _, _, r⟩ := ho.shape
    refine ⟨A, _, c, 0, encH H, he, hb, r, fun q => ?_⟩
    rcases h.is with ⟨_, g⟩ | ⟨e1, _, _⟩
    · exact g.2
    · omega
  · refine ⟨none, 0, 0, 60, [], he, hb, Rd.nil, fun q => ?_⟩
    rcases h.is with ⟨_, g⟩ | ⟨e1, _, _⟩
    · exact absurd g.1.right hR
    · omega
/-- .. and GetState. -/
structure UniS (w : World) (b : List UInt8) (w' : World) (S : St) (s : SSl) (os : List (Ob × OSl)) (er : Int) : Prop where
  bel : Below w.heap.size w w'
  own : OwnSt w' w.heap.size s os S
  is : (er = 0 ∧ GetsS b (some S)) ∨ (er = 60 ∧ S = ⟨zeroH, []⟩ ∧ GetsS b none)
theorem GotS.uni {w w' : World} {b : List UInt8} {e : Ending} (h : GotS w b e w') : ∃ S s os er, e = .returned (.tuple #[.agg (scs S s).toArray, .int .i64 er]) ∧ UniS w b w' S s os er := by
  obtain ⟨hb, ⟨H, s, os, he, ho, hg⟩ | ⟨he, hg⟩⟩ := h
  · exact ⟨H, s, os, 0, he, hb, ho, .inl ⟨rfl, hg⟩⟩
  · exact ⟨⟨zeroH, []⟩, ⟨⟨none, 0, 0, none, 0, 0⟩, none, 0, 0⟩, [], 60, he, hb, ⟨own_zero _ _, OwnW.nil⟩, .inr ⟨rfl, rfl, hg⟩⟩
theorem UniS.same {w1 w1' w2 w2' : World} {b : List UInt8} {H K : St} {s t : SSl} {os ot : List (Ob × OSl)} {er fr : Int} (h : UniS w1 b w1' H s os er) (k : UniS w2 b w2' K t ot fr) : K = H ∧ fr = er := by
  rcases h.is with ⟨e1, g1⟩ | ⟨e1, h1, g1⟩ <;> rcases k.is with ⟨f1, q1⟩ | ⟨f1, k1, q1⟩
  · have := g1.uniq q1
    injection this with this
    exact ⟨this.symm, by rw [e1, f1]⟩
  · cases g1.uniq q1
  · cases g1.uniq q1
  · exact ⟨by rw [h1, k1], by rw [e1, f1]⟩
theorem UniS.small {w w' : World} {b : List UInt8} {S : St} {s : SSl} {os : List (Ob × OSl)} {er : Int} (h : UniS w b w' S s os er) : SmallS S ∧ IntsS S := by
  rcases h.is with ⟨_, g⟩ | ⟨_, e, _⟩
  · exact ⟨⟨rightI_small g.1.hp.right, by have := g.1.rows.len; omega⟩, g.1.hp.ints, g.1.ints⟩
  · subst e
    exact ⟨⟨smallI_zero, by simp⟩, (fun x hx => by cases hx), fun x hx => by cases hx⟩
theorem UniS.laid {w w' w2 w3 : World} {b : List UInt8} {S : St} {s : SSl} {os : List (Ob × OSl)} {er : Int} {e : Ending} (h : UniS w b w' S s os er) (k : PutSP w2 S e w3) :
    ∃ A m c fr Y, e = .returned (.tuple #[.slice A m c, .int .i64 fr]) ∧ Below w2.heap.size w2 w3 ∧ Rd w3 A m Y ∧ (er = 0 → Y = b) := by
  obtain ⟨hb, ⟨hR, v, he, ho⟩ | ⟨hR, he⟩⟩ := k
  · obtain ⟨A, c, rfl, _, _, r⟩ := ho.shape
    refine ⟨A, _, c, 0, encS S, he, hb, r, fun q => ?_⟩
    rcases h.is with ⟨_, g⟩ | ⟨e1, _, _⟩
    · exact g.2
    · omega
  · refine ⟨none, 0, 0, 60, [], he, hb, Rd.nil, fun q => ?_⟩
    rcases h.is with ⟨_, g⟩ | ⟨e1, _, _⟩
    · exact absurd g.1.right hR
    · omega
theorem oRes_cases (b : List UInt8) : ((oRes b).2 = 0 ∧ (oRes b).1.flatMap encI = b) ∨ (oRes b).2 = 60 := by
  unfold oRes
  split
  · rename_i vs h
    refine .inl ⟨rfl, ?_⟩
    have := (prep_codec pint_codec 7).sound _ _ _ h
    rw [this.2, List.append_nil]
  · exact .inr rfl
theorem lent_head {w : World} {A : Option Addr} {n : Nat} {b : List UInt8} (h : Rd w A (n + 6) (b ++ pad 6)) (hl : b.length = n) : Rd w A n b := by
  have h := h.take (k := n) (by omega)
  rw [List.take_append_of_le_length (by omega), List.take_of_length_le (by omega)] at h
  exact h
theorem boolNe_self (e : Int) : (e != e) = false := by simp
set_option maxRecDepth 20000 in
set_option maxHeartbeats 4000000 in
theorem imageReads_walk (A : Option Addr) (n c : Nat) (b : List UInt8) (w : World) (hT : Tab w) (hb : Rd w A n b) (hnc : n ≤ c) (hcm : c ≤ maxLen) :
    Calls Tryz.prog 5 #[.slice A n c] w (Holds w) := by
  by_cases hk : 65536 < n
  · go_enter Tryz.func5, Tryz.ntmps5
    go_wp2
    go_ret
    exact ⟨rfl, Below.refl _ _⟩
  have Hl := Lib.hid hb.len
  have HT := Lib.hid hT
  have HB := Lib.hid hb
  have HC := Lib.hid (And.intro hnc hcm)
  have SL := lent_any A n c b w hb (by omega)
  clear hT hb hnc hcm
  go_enter Tryz.func5, Tryz.ntmps5
  go_wp2_with fail
  refine SL.mono ?_
  rintro e w1 ⟨Ax, cx, rfl, hcx, hmx, r6, b1⟩
  rw [Hl.out] at hcx r6 ⊢
  have HX := Lib.hid (show Rd w1 Ax (n + 6) (b ++ pad 6) ∧ n + 6 ≤ cx ∧ cx ≤ maxLen from ⟨r6, hcx, hmx⟩)
  have Hb1 := Lib.hid b1
  clear SL hcx hmx r6 b1
  obtain ⟨vs, er, hx⟩ : ∃ vs er, oRes b = (vs, er) := ⟨_, _, rfl⟩
  have hlen := oRes_len b
  have hcase := oRes_cases b
  rw [hx] at hlen hcase
  simp only at hlen hcase
  have Hx := Lib.hid hx
  clear hx
  have SG := getOp_any Ax n cx b w1 (lent_head HX.out.1 Hl.out) (by omega)
  go_wp2_with fail
  refine SG.mono ?_
  rintro e w2 ⟨b2, he⟩
  rw [Hx.out] at he
  subst he
  match vs, hlen with
  | [v0, v1, v2, v3, v4, v5, v6], _ =>
  simp only [intvs, List.map_cons, List.map_nil]
  have bA := (Below.refl w2.heap.size w2).alloc (Nat.le_refl _) (.cells #[.int .i64 v0, .int .i64 v1, .int .i64 v2, .int .i64 v3, .int .i64 v4, .int .i64 v5, .int .i64 v6] 50)
  have K4 := Whole.new w2 #[.int .i64 v0, .int .i64 v1, .int .i64 v2, .int .i64 v3, .int .i64 v4, .int .i64 v5, .int .i64 v6] 50
  have B2 := Hb1.out.trans ((b2.trans (bA.mono b2.size)).mono Hb1.out.size)
  have B12 := b2.trans (bA.mono b2.size)
  obtain ⟨p4, hp4⟩ : ∃ p4, p4 = w2.heap.size := ⟨_, rfl⟩
  rw [← hp4] at K4
  clear SG b2 bA
  go_upto_region 5 with (fail)
  rw [← hp4]
  generalize w2.alloc (.cells #[.int .i64 v0, .int .i64 v1, .int .i64 v2, .int .i64 v3, .int .i64 v4, .int .i64 v5, .int .i64 v6] 50) = W2 at K4 B2 B12 ⊢
  clear hp4
  have SR := refGetOp_any A n c b W2 (HB.out.below B2) HC.out.1
  go_wp2_with fail
  refine SR.mono ?_
  rintro e w3 ⟨b3, he⟩
  rw [Hx.out] at he
  subst he
  simp only [intvs, List.map_cons, List.map_nil]
  have bA := (Below.refl w3.heap.size w3).alloc (Nat.le_refl _) (.cells #[.int .i64 v0, .int .i64 v1, .int .i64 v2, .int .i64 v3, .int .i64 v4, .int .i64 v5, .int .i64 v6] 50)
  have K6 := Whole.new w3 #[.int .i64 v0, .int .i64 v1, .int .i64 v2, .int .i64 v3, .int .i64 v4, .int .i64 v5, .int .i64 v6] 50
  have b23 := b3.trans (bA.mono b3.size)
  have K4' := K4.below b23
  have B3 := B2.trans (b23.mono B2.size)
  have B13 := B12.trans (b23.mono B12.size)
  obtain ⟨p6, hp6⟩ : ∃ p6, p6 = w3.heap.size := ⟨_, rfl⟩
  rw [← hp6] at K6
  clear SR b3 bA K4 B2 B12 b23
  go_upto_region 6 with (fail)
  rw [← hp6]
  generalize w3.alloc (.cells #[.int .i64 v0, .int .i64 v1, .int .i64 v2, .int .i64 v3, .int .i64 v4, .int .i64 v5, .int .i64 v6] 50) = W3 at K4' K6 B3 B13 ⊢
  clear hp6
  have HK4 := Lib.hid K4'
  have HK6 := Lib.hid K6
  have HB3 := Lib.hid B3
  have HB13 := Lib.hid B13
  clear K4' K6 B3 B13
  obtain ⟨W8, hW8⟩ : ∃ W8, W8 = W3 := ⟨_, rfl⟩
  subst hW8
  go_cut [50] (fun v wc => Below W8.heap.size W8 wc ∧ v = .bool false)
  case first =>
    -- region 6
    have b0 : Below W8.heap.size W8 W8.drew := (Below.refl _ W8).drew
    rcases hcase with ⟨rfl, henc⟩ | rfl
    · have Henc := Lib.hid henc
      clear henc
      go_upto_region 6 with (fail)
      refine wp_region_any (by kernel_rfl) ?_
      change wpAny _ _ _ _ _ _ _ (World.drew _)
      refine wpAny_ready (rs := [0, 1]) (by kernel_rfl) (by simp) ?_
      refine AllReady.cons rfl (fun K hK => ?_) (AllReady.cons rfl (fun K hK => ?_) (AllReady.nil))
      · skip
        have o0_1 := (HK4.out.below b0).cell 0
        have o1_1 := (HK4.out.below b0).cell 1
        have o2_1 := (HK4.out.below b0).cell 2
        have o3_1 := (HK4.out.below b0).cell 3
        have o4_1 := (HK4.out.below b0).cell 4
        have o5_1 := (HK4.out.below b0).cell 5
        have o6_1 := (HK4.out.below b0).cell 6
        go_simp
        refine hK _ _ ?_
        clear hK K
        clear o0_1 o1_1 o2_1 o3_1 o4_1 o5_1 o6_1
        refine wpAny_ready (rs := [1]) (by kernel_rfl) (by simp) ?_
        refine AllReady.cons rfl (fun K hK => ?_) (AllReady.nil)
        have o0_2 := (HK6.out.below b0).cell 0
        have o1_2 := (HK6.out.below b0).cell 1
        have o2_2 := (HK6.out.below b0).cell 2
        have o3_2 := (HK6.out.below b0).cell 3
        have o4_2 := (HK6.out.below b0).cell 4
        have o5_2 := (HK6.out.below b0).cell 5
        have o6_2 := (HK6.out.below b0).cell 6
        go_simp
        refine hK _ _ ?_
        clear hK K
        clear o0_2 o1_2 o2_2 o3_2 o4_2 o5_2 o6_2
        refine take_put (i := 2) (d := 33) (v := ?_) rfl rfl (by kernel_rfl) (by kernel_rfl) (by kernel_rfl) (fun _ _ _ h => h) (Or.inl ⟨by rfl, ?_⟩) ?_
        rotate_left
        · intro w; go_simp; with_reducible rfl
        conv =>
          arg 7
          simp only [List.setIfInBounds_toArray, List.set_cons_succ, List.set_cons_zero]
        refine take_put (i := 3) (d := 34) (v := ?_) rfl rfl (by kernel_rfl) (by kernel_rfl) (by kernel_rfl) (fun _ _ _ h => h) (Or.inl ⟨by rfl, ?_⟩) ?_
        rotate_left
        · intro w; go_simp; with_reducible rfl
        conv =>
          arg 7
          simp only [List.setIfInBounds_toArray, List.set_cons_succ, List.set_cons_zero]
        refine take_put (i := 4) (d := 35) (v := ?_) rfl rfl (by kernel_rfl) (by kernel_rfl) (by kernel_rfl) (fun _ _ _ h => h) (Or.inl ⟨by rfl, ?_⟩) ?_
        rotate_left
        · intro w; go_simp; with_reducible rfl
        conv =>
          arg 7
          simp only [List.setIfInBounds_toArray, List.set_cons_succ, List.set_cons_zero]
        refine take_put (i := 5) (d := 36) (v := ?_) rfl rfl (by kernel_rfl) (by kernel_rfl) (by kernel_rfl) (fun _ _ _ h => h) (Or.inl ⟨by rfl, ?_⟩) ?_
        rotate_left
        · intro w; go_simp; with_reducible rfl
        conv =>
          arg 7
          simp only [List.setIfInBounds_toArray, List.set_cons_succ, List.set_cons_zero]
        refine take_put (i := 6) (d := 37) (v := ?_) rfl rfl (by kernel_rfl) (by kernel_rfl) (by kernel_rfl) (fun _ _ _ h => h) (Or.inl ⟨by rfl, ?_⟩) ?_
        rotate_left
        · intro w; go_simp; with_reducible rfl
        conv =>
          arg 7
          simp only [List.setIfInBounds_toArray, List.set_cons_succ, List.set_cons_zero]
        refine take_put (i := 7) (d := 38) (v := ?_) rfl rfl (by kernel_rfl) (by kernel_rfl) (by kernel_rfl) (fun _ _ _ h => h) (Or.inl ⟨by rfl, ?_⟩) ?_
        rotate_left
        · intro w; go_simp; with_reducible rfl
        conv =>
          arg 7
          simp only [List.setIfInBounds_toArray, List.set_cons_succ, List.set_cons_zero]
        refine take_put (i := 8) (d := 39) (v := ?_) rfl rfl (by kernel_rfl) (by kernel_rfl) (by kernel_rfl) (fun _ _ _ h => h) (Or.inl ⟨by rfl, ?_⟩) ?_
        rotate_left
        · intro w; go_simp; with_reducible rfl
        conv =>
          arg 7
          simp only [List.setIfInBounds_toArray, List.set_cons_succ, List.set_cons_zero]
        refine take_put (i := 9) (d := 40) (v := ?_) rfl rfl (by kernel_rfl) (by kernel_rfl) (by kernel_rfl) (fun _ _ _ h => h) (Or.inl ⟨by rfl, ?_⟩) ?_
        rotate_left
        · intro w; go_simp; with_reducible rfl
        conv =>
          arg 7
          simp only [List.setIfInBounds_toArray, List.set_cons_succ, List.set_cons_zero]
        refine take_put (i := 10) (d := 41) (v := ?_) rfl rfl (by kernel_rfl) (by kernel_rfl) (by kernel_rfl) (fun _ _ _ h => h) (Or.inl ⟨by rfl, ?_⟩) ?_
        rotate_left
        · intro w; go_simp; with_reducible rfl
        conv =>
          arg 7
          simp only [List.setIfInBounds_toArray, List.set_cons_succ, List.set_cons_zero]
        refine take_put (i := 11) (d := 42) (v := ?_) rfl rfl (by kernel_rfl) (by kernel_rfl) (by kernel_rfl) (fun _ _ _ h => h) (Or.inl ⟨by rfl, ?_⟩) ?_
        rotate_left
        · intro w; go_simp; with_reducible rfl
        conv =>
          arg 7
          simp only [List.setIfInBounds_toArray, List.set_cons_succ, List.set_cons_zero]
        refine take_put (i := 15) (d := 46) (v := ?_) rfl rfl (by kernel_rfl) (by kernel_rfl) (by kernel_rfl) (fun _ _ _ h => h) (Or.inl ⟨by rfl, ?_⟩) ?_
        rotate_left
        · intro w; go_simp; with_reducible rfl
        conv =>
          arg 7
          simp only [List.setIfInBounds_toArray, List.set_cons_succ, List.set_cons_zero]
        refine wpAny_ready (rs := [12, 16]) (by kernel_rfl) (by simp) ?_
        refine AllReady.cons rfl (fun K hK => ?_) (AllReady.cons rfl (fun K hK => ?_) (AllReady.nil))
        · skip
          have o0_3 := (HK4.out.below b0).cell 0
          have o1_3 := (HK4.out.below b0).cell 1
          have o2_3 := (HK4.out.below b0).cell 2
          have o3_3 := (HK4.out.below b0).cell 3
          have o4_3 := (HK4.out.below b0).cell 4
          have o5_3 := (HK4.out.below b0).cell 5
          have o6_3 := (HK4.out.below b0).cell 6
          go_simp
          refine hK _ _ ?_
          clear hK K
          clear o0_3 o1_3 o2_3 o3_3 o4_3 o5_3 o6_3
          refine wpAny_ready (rs := [13, 16]) (by kernel_rfl) (by simp) ?_
          refine AllReady.cons rfl (fun K hK => ?_) (AllReady.cons rfl (fun K hK => ?_) (AllReady.nil))
          · skip
            go_simp
            go_wp2_with (go_at_call 28; refine Calls.mono (putOp_any [v0, v1, v2, v3, v4, v5, v6] rfl _) ?_; rintro e wq4 ⟨z4, rfl, o4, bq4⟩)
            rw [Henc.out] at o4
            obtain ⟨A4, c4, rfl, _, _, r4⟩ := o4.shapeN Hl.out
            have bb4 : Below W8.heap.size W8 wq4 := b0.trans (bq4.mono b0.size)
            refine wpAny_ready (rs := [14, 16]) (by kernel_rfl) (by simp) ?_
            refine AllReady.cons rfl (fun K hK => ?_) (AllReady.cons rfl (fun K hK => ?_) (AllReady.nil))
            · skip
              have k5 := r4.conv (P := Tryz.prog) c4 29 5 9 Tryz.underlying29 Tryz.underlying5 Tryz.underlying9
              go_simp
              refine hK _ _ ?_
              clear hK K
              clear k5
              refine wpAny_ready (rs := [16]) (by kernel_rfl) (by simp) ?_
              refine AllReady.cons rfl (fun K hK => ?_) (AllReady.nil)
              have k6 := (HB.out.below (HB3.out.trans (bb4.mono HB3.out.size))).conv (P := Tryz.prog) c 29 5 9 Tryz.underlying29 Tryz.underlying5 Tryz.underlying9
              go_simp
              refine hK _ _ ?_
              clear hK K
              clear k6
              refine take_put (i := 17) (d := 48) (v := ?_) rfl rfl (by kernel_rfl) (by kernel_rfl) (by kernel_rfl) (fun _ _ _ h => h) (Or.inl ⟨by rfl, ?_⟩) ?_
              rotate_left
              · intro w; go_simp; with_reducible rfl
              conv =>
                arg 7
                simp only [List.setIfInBounds_toArray, List.set_cons_succ, List.set_cons_zero]
              refine take_put (i := 18) (d := 49) (v := ?_) rfl rfl (by kernel_rfl) (by kernel_rfl) (by kernel_rfl) (fun _ _ _ h => h) (Or.inl ⟨by rfl, ?_⟩) ?_
              rotate_left
              · intro w; go_simp; with_reducible rfl
              conv =>
                arg 7
                simp only [List.setIfInBounds_toArray, List.set_cons_succ, List.set_cons_zero]
              refine take_put (i := 19) (d := 50) (v := ?_) rfl rfl (by kernel_rfl) (by kernel_rfl) (by kernel_rfl) (fun _ _ _ h => h) (Or.inl ⟨by rfl, ?_⟩) ?_
              rotate_left
              · intro w; go_simp; with_reducible rfl
              conv =>
                arg 7
                simp only [List.setIfInBounds_toArray, List.set_cons_succ, List.set_cons_zero]
              refine wpAny_done (by kernel_rfl) ?_ _
              go_wp2_with fail
              go_meet
              exact ⟨bb4, rfl⟩
            · skip
              have k7 := (HB.out.below (HB3.out.trans (bb4.mono HB3.out.size))).conv (P := Tryz.prog) c 29 5 9 Tryz.underlying29 Tryz.underlying5 Tryz.underlying9
              go_simp
              refine hK _ _ ?_
              clear hK K
              clear k7
              refine wpAny_ready (rs := [14]) (by kernel_rfl) (by simp) ?_
              refine AllReady.cons rfl (fun K hK => ?_) (AllReady.nil)
              have k8 := r4.conv (P := Tryz.prog) c4 29 5 9 Tryz.underlying29 Tryz.underlying5 Tryz.underlying9
              go_simp
              refine hK _ _ ?_
              clear hK K
              clear k8
              refine take_put (i := 17) (d := 48) (v := ?_) rfl rfl (by kernel_rfl) (by kernel_rfl) (by kernel_rfl) (fun _ _ _ h => h) (Or.inl ⟨by rfl, ?_⟩) ?_
              rotate_left
              · intro w; go_simp; with_reducible rfl
              conv =>
                arg 7
                simp only [List.setIfInBounds_toArray, List.set_cons_succ, List.set_cons_zero]
              refine take_put (i := 18) (d := 49) (v := ?_) rfl rfl (by kernel_rfl) (by kernel_rfl) (by kernel_rfl) (fun _ _ _ h => h) (Or.inl ⟨by rfl, ?_⟩) ?_
              rotate_left
              · intro w; go_simp; with_reducible rfl
              conv =>
                arg 7
                simp only [List.setIfInBounds_toArray, List.set_cons_succ, List.set_cons_zero]
              refine take_put (i := 19) (d := 50) (v := ?_) rfl rfl (by kernel_rfl) (by kernel_rfl) (by kernel_rfl) (fun _ _ _ h => h) (Or.inl ⟨by rfl, ?_⟩) ?_
              rotate_left
              · intro w; go_simp; with_reducible rfl
              conv =>
                arg 7
                simp only [List.setIfInBounds_toArray, List.set_cons_succ, List.set_cons_zero]
              refine wpAny_done (by kernel_rfl) ?_ _
              go_wp2_with fail
              go_meet
              exact ⟨bb4, rfl⟩
          · skip
            have k9 := (HB.out.below (HB3.out.trans (b0.mono HB3.out.size))).conv (P := Tryz.prog) c 29 5 9 Tryz.underlying29 Tryz.underlying5 Tryz.underlying9
            go_simp
            refine hK _ _ ?_
            clear hK K
            clear k9
            refine wpAny_ready (rs := [13]) (by kernel_rfl) (by simp) ?_
            refine AllReady.cons rfl (fun K hK => ?_) (AllReady.nil)
            go_simp
            go_wp2_with (go_at_call 28; refine Calls.mono (putOp_any [v0, v1, v2, v3, v4, v5, v6] rfl _) ?_; rintro e wq10 ⟨z10, rfl, o10, bq10⟩)
            rw [Henc.out] at o10
            obtain ⟨A10, c10, rfl, _, _, r10⟩ := o10.shapeN Hl.out
            have bb10 : Below W8.heap.size W8 wq10 := b0.trans (bq10.mono b0.size)
            refine wpAny_ready (rs := [14]) (by kernel_rfl) (by simp) ?_
            refine AllReady.cons rfl (fun K hK => ?_) (AllReady.nil)
            have k11 := r10.conv (P := Tryz.prog) c10 29 5 9 Tryz.underlying29 Tryz.underlying5 Tryz.underlying9
            go_simp
            refine hK _ _ ?_
            clear hK K
            clear k11
            refine take_put (i := 17) (d := 48) (v := ?_) rfl rfl (by kernel_rfl) (by kernel_rfl) (by kernel_rfl) (fun _ _ _ h => h) (Or.inl ⟨by rfl, ?_⟩) ?_
            rotate_left
            · intro w; go_simp; with_reducible rfl
            conv =>
              arg 7
              simp only [List.setIfInBounds_toArray, List.set_cons_succ, List.set_cons_zero]
            refine take_put (i := 18) (d := 49) (v := ?_) rfl rfl (by kernel_rfl) (by kernel_rfl) (by kernel_rfl) (fun _ _ _ h => h) (Or.inl ⟨by rfl, ?_⟩) ?_
            rotate_left
            · intro w; go_simp; with_reducible rfl
            conv =>
              arg 7
              simp only [List.setIfInBounds_toArray, List.set_cons_succ, List.set_cons_zero]
            refine take_put (i := 19) (d := 50) (v := ?_) rfl rfl (by kernel_rfl) (by kernel_rfl) (by kernel_rfl) (fun _ _ _ h => h) (Or.inl ⟨by rfl, ?_⟩) ?_
            rotate_left
            · intro w; go_simp; with_reducible rfl
            conv =>
              arg 7
              simp only [List.setIfInBounds_toArray, List.set_cons_succ, List.set_cons_zero]
            refine wpAny_done (by kernel_rfl) ?_ _
            go_wp2_with fail
            go_meet
            exact ⟨bb10, rfl⟩
        · skip
          have k12 := (HB.out.below (HB3.out.trans (b0.mono HB3.out.size))).conv (P := Tryz.prog) c 29 5 9 Tryz.underlying29 Tryz.underlying5 Tryz.underlying9
          go_simp
          refine hK _ _ ?_
          clear hK K
          clear k12
          refine wpAny_ready (rs := [12]) (by kernel_rfl) (by simp) ?_
          refine AllReady.cons rfl (fun K hK => ?_) (AllReady.nil)
          have o0_13 := (HK4.out.below b0).cell 0
          have o1_13 := (HK4.out.below b0).cell 1
          have o2_13 := (HK4.out.below b0).cell 2
          have o3_13 := (HK4.out.below b0).cell 3
          have o4_13 := (HK4.out.below b0).cell 4
          have o5_13 := (HK4.out.below b0).cell 5
          have o6_13 := (HK4.out.below b0).cell 6
          go_simp
          refine hK _ _ ?_
          clear hK K
          clear o0_13 o1_13 o2_13 o3_13 o4_13 o5_13 o6_13
          refine wpAny_ready (rs := [13]) (by kernel_rfl) (by simp) ?_
          refine AllReady.cons rfl (fun K hK => ?_) (AllReady.nil)
          go_simp
          go_wp2_with (go_at_call 28; refine Calls.mono (putOp_any [v0, v1, v2, v3, v4, v5, v6] rfl _) ?_; rintro e wq14 ⟨z14, rfl, o14, bq14⟩)
          rw [Henc.out] at o14
          obtain ⟨A14, c14, rfl, _, _, r14⟩ := o14.shapeN Hl.out
          have bb14 : Below W8.heap.size W8 wq14 := b0.trans (bq14.mono b0.size)
          refine wpAny_ready (rs := [14]) (by kernel_rfl) (by simp) ?_
          refine AllReady.cons rfl (fun K hK => ?_) (AllReady.nil)
          have k15 := r14.conv (P := Tryz.prog) c14 29 5 9 Tryz.underlying29 Tryz.underlying5 Tryz.underlying9
          go_simp
          refine hK _ _ ?_
          clear hK K
          clear k15
          refine take_put (i := 17) (d := 48) (v := ?_) rfl rfl (by kernel_rfl) (by kernel_rfl) (by kernel_rfl) (fun _ _ _ h => h) (Or.inl ⟨by rfl, ?_⟩) ?_
          rotate_left
          · intro w; go_simp; with_reducible rfl
          conv =>
            arg 7
            simp only [List.setIfInBounds_toArray, List.set_cons_succ, List.set_cons_zero]
          refine take_put (i := 18) (d := 49) (v := ?_) rfl rfl (by kernel_rfl) (by kernel_rfl) (by kernel_rfl) (fun _ _ _ h => h) (Or.inl ⟨by rfl, ?_⟩) ?_
          rotate_left
          · intro w; go_simp; with_reducible rfl
          conv =>
            arg 7
            simp only [List.setIfInBounds_toArray, List.set_cons_succ, List.set_cons_zero]
          refine take_put (i := 19) (d := 50) (v := ?_) rfl rfl (by kernel_rfl) (by kernel_rfl) (by kernel_rfl) (fun _ _ _ h => h) (Or.inl ⟨by rfl, ?_⟩) ?_
          rotate_left
          · intro w; go_simp; with_reducible rfl
          conv =>
            arg 7
            simp only [List.setIfInBounds_toArray, List.set_cons_succ, List.set_cons_zero]
          refine wpAny_done (by kernel_rfl) ?_ _
          go_wp2_with fail
          go_meet
          exact ⟨bb14, rfl⟩
      · skip
        have o0_16 := (HK6.out.below b0).cell 0
        have o1_16 := (HK6.out.below b0).cell 1
        have o2_16 := (HK6.out.below b0).cell 2
        have o3_16 := (HK6.out.below b0).cell 3
        have o4_16 := (HK6.out.below b0).cell 4
        have o5_16 := (HK6.out.below b0).cell 5
        have o6_16 := (HK6.out.below b0).cell 6
        go_simp
        refine hK _ _ ?_
        clear hK K
        clear o0_16 o1_16 o2_16 o3_16 o4_16 o5_16 o6_16
        refine wpAny_ready (rs := [0]) (by kernel_rfl) (by simp) ?_
        refine AllReady.cons rfl (fun K hK => ?_) (AllReady.nil)
        have o0_17 := (HK4.out.below b0).cell 0
        have o1_17 := (HK4.out.below b0).cell 1
        have o2_17 := (HK4.out.below b0).cell 2
        have o3_17 := (HK4.out.below b0).cell 3
        have o4_17 := (HK4.out.below b0).cell 4
        have o5_17 := (HK4.out.below b0).cell 5
        have o6_17 := (HK4.out.below b0).cell 6
        go_simp
        refine hK _ _ ?_
        clear hK K
        clear o0_17 o1_17 o2_17 o3_17 o4_17 o5_17 o6_17
        refine take_put (i := 2) (d := 33) (v := ?_) rfl rfl (by kernel_rfl) (by kernel_rfl) (by kernel_rfl) (fun _ _ _ h => h) (Or.inl ⟨by rfl, ?_⟩) ?_
        rotate_left
        · intro w; go_simp; with_reducible rfl
        conv =>
          arg 7
          simp only [List.setIfInBounds_toArray, List.set_cons_succ, List.set_cons_zero]
        refine take_put (i := 3) (d := 34) (v := ?_) rfl rfl (by kernel_rfl) (by kernel_rfl) (by kernel_rfl) (fun _ _ _ h => h) (Or.inl ⟨by rfl, ?_⟩) ?_
        rotate_left
        · intro w; go_simp; with_reducible rfl
        conv =>
          arg 7
          simp only [List.setIfInBounds_toArray, List.set_cons_succ, List.set_cons_zero]
        refine take_put (i := 4) (d := 35) (v := ?_) rfl rfl (by kernel_rfl) (by kernel_rfl) (by kernel_rfl) (fun _ _ _ h => h) (Or.inl ⟨by rfl, ?_⟩) ?_
        rotate_left
        · intro w; go_simp; with_reducible rfl
        conv =>
          arg 7
          simp only [List.setIfInBounds_toArray, List.set_cons_succ, List.set_cons_zero]
        refine take_put (i := 5) (d := 36) (v := ?_) rfl rfl (by kernel_rfl) (by kernel_rfl) (by kernel_rfl) (fun _ _ _ h => h) (Or.inl ⟨by rfl, ?_⟩) ?_
        rotate_left
        · intro w; go_simp; with_reducible rfl
        conv =>
          arg 7
          simp only [List.setIfInBounds_toArray, List.set_cons_succ, List.set_cons_zero]
        refine take_put (i := 6) (d := 37) (v := ?_) rfl rfl (by kernel_rfl) (by kernel_rfl) (by kernel_rfl) (fun _ _ _ h => h) (Or.inl ⟨by rfl, ?_⟩) ?_
        rotate_left
        · intro w; go_simp; with_reducible rfl
        conv =>
          arg 7
          simp only [List.setIfInBounds_toArray, List.set_cons_succ, List.set_cons_zero]
        refine take_put (i := 7) (d := 38) (v := ?_) rfl rfl (by kernel_rfl) (by kernel_rfl) (by kernel_rfl) (fun _ _ _ h => h) (Or.inl ⟨by rfl, ?_⟩) ?_
        rotate_left
        · intro w; go_simp; with_reducible rfl
        conv =>
          arg 7
          simp only [List.setIfInBounds_toArray, List.set_cons_succ, List.set_cons_zero]
        refine take_put (i := 8) (d := 39) (v := ?_) rfl rfl (by kernel_rfl) (by kernel_rfl) (by kernel_rfl) (fun _ _ _ h => h) (Or.inl ⟨by rfl, ?_⟩) ?_
        rotate_left
        · intro w; go_simp; with_reducible rfl
        conv =>
          arg 7
          simp only [List.setIfInBounds_toArray, List.set_cons_succ, List.set_cons_zero]
        refine take_put (i := 9) (d := 40) (v := ?_) rfl rfl (by kernel_rfl) (by kernel_rfl) (by kernel_rfl) (fun _ _ _ h => h) (Or.inl ⟨by rfl, ?_⟩) ?_
        rotate_left
        · intro w; go_simp; with_reducible rfl
        conv =>
          arg 7
          simp only [List.setIfInBounds_toArray, List.set_cons_succ, List.set_cons_zero]
        refine take_put (i := 10) (d := 41) (v := ?_) rfl rfl (by kernel_rfl) (by kernel_rfl) (by kernel_rfl) (fun _ _ _ h => h) (Or.inl ⟨by rfl, ?_⟩) ?_
        rotate_left
        · intro w; go_simp; with_reducible rfl
        conv =>
          arg 7
          simp only [List.setIfInBounds_toArray, List.set_cons_succ, List.set_cons_zero]
        refine take_put (i := 11) (d := 42) (v := ?_) rfl rfl (by kernel_rfl) (by kernel_rfl) (by kernel_rfl) (fun _ _ _ h => h) (Or.inl ⟨by rfl, ?_⟩) ?_
        rotate_left
        · intro w; go_simp; with_reducible rfl
        conv =>
          arg 7
          simp only [List.setIfInBounds_toArray, List.set_cons_succ, List.set_cons_zero]
        refine take_put (i := 15) (d := 46) (v := ?_) rfl rfl (by kernel_rfl) (by kernel_rfl) (by kernel_rfl) (fun _ _ _ h => h) (Or.inl ⟨by rfl, ?_⟩) ?_
        rotate_left
        · intro w; go_simp; with_reducible rfl
        conv =>
          arg 7
          simp only [List.setIfInBounds_toArray, List.set_cons_succ, List.set_cons_zero]
        refine wpAny_ready (rs := [12, 16]) (by kernel_rfl) (by simp) ?_
        refine AllReady.cons rfl (fun K hK => ?_) (AllReady.cons rfl (fun K hK => ?_) (AllReady.nil))
        · skip
          have o0_18 := (HK4.out.below b0).cell 0
          have o1_18 := (HK4.out.below b0).cell 1
          have o2_18 := (HK4.out.below b0).cell 2
          have o3_18 := (HK4.out.below b0).cell 3
          have o4_18 := (HK4.out.below b0).cell 4
          have o5_18 := (HK4.out.below b0).cell 5
          have o6_18 := (HK4.out.below b0).cell 6
          go_simp
          refine hK _ _ ?_
          clear hK K
          clear o0_18 o1_18 o2_18 o3_18 o4_18 o5_18 o6_18
          refine wpAny_ready (rs := [13, 16]) (by kernel_rfl) (by simp) ?_
          refine AllReady.cons rfl (fun K hK => ?_) (AllReady.cons rfl (fun K hK => ?_) (AllReady.nil))
          · skip
            go_simp
            go_wp2_with (go_at_call 28; refine Calls.mono (putOp_any [v0, v1, v2, v3, v4, v5, v6] rfl _) ?_; rintro e wq19 ⟨z19, rfl, o19, bq19⟩)
            rw [Henc.out] at o19
            obtain ⟨A19, c19, rfl, _, _, r19⟩ := o19.shapeN Hl.out
            have bb19 : Below W8.heap.size W8 wq19 := b0.trans (bq19.mono b0.size)
            refine wpAny_ready (rs := [14, 16]) (by kernel_rfl) (by simp) ?_
            refine AllReady.cons rfl (fun K hK => ?_) (AllReady.cons rfl (fun K hK => ?_) (AllReady.nil))
            · skip
              have k20 := r19.conv (P := Tryz.prog) c19 29 5 9 Tryz.underlying29 Tryz.underlying5 Tryz.underlying9
              go_simp
              refine hK _ _ ?_
              clear hK K
              clear k20
              refine wpAny_ready (rs := [16]) (by kernel_rfl) (by simp) ?_
              refine AllReady.cons rfl (fun K hK => ?_) (AllReady.nil)
              have k21 := (HB.out.below (HB3.out.trans (bb19.mono HB3.out.size))).conv (P := Tryz.prog) c 29 5 9 Tryz.underlying29 Tryz.underlying5 Tryz.underlying9
              go_simp
              refine hK _ _ ?_
              clear hK K
              clear k21
              refine take_put (i := 17) (d := 48) (v := ?_) rfl rfl (by kernel_rfl) (by kernel_rfl) (by kernel_rfl) (fun _ _ _ h => h) (Or.inl ⟨by rfl, ?_⟩) ?_
              rotate_left
              · intro w; go_simp; with_reducible rfl
              conv =>
                arg 7
                simp only [List.setIfInBounds_toArray, List.set_cons_succ, List.set_cons_zero]
              refine take_put (i := 18) (d := 49) (v := ?_) rfl rfl (by kernel_rfl) (by kernel_rfl) (by kernel_rfl) (fun _ _ _ h => h) (Or.inl ⟨by rfl, ?_⟩) ?_
              rotate_left
              · intro w; go_simp; with_reducible rfl
              conv =>
                arg 7
                simp only [List.setIfInBounds_toArray, List.set_cons_succ, List.set_cons_zero]
              refine take_put (i := 19) (d := 50) (v := ?_) rfl rfl (by kernel_rfl) (by kernel_rfl) (by kernel_rfl) (fun _ _ _ h => h) (Or.inl ⟨by rfl, ?_⟩) ?_
              rotate_left
              · intro w; go_simp; with_reducible rfl
              conv =>
                arg 7
                simp only [List.setIfInBounds_toArray, List.set_cons_succ, List.set_cons_zero]
              refine wpAny_done (by kernel_rfl) ?_ _
              go_wp2_with fail
              go_meet
              exact ⟨bb19, rfl⟩
            · skip
              have k22 := (HB.out.below (HB3.out.trans (bb19.mono HB3.out.size))).conv (P := Tryz.prog) c 29 5 9 Tryz.underlying29 Tryz.underlying5 Tryz.underlying9
              go_simp
              refine hK _ _ ?_
              clear hK K
              clear k22
              refine wpAny_ready (rs := [14]) (by kernel_rfl) (by simp) ?_
              refine AllReady.cons rfl (fun K hK => ?_) (AllReady.nil)
              have k23 := r19.conv (P := Tryz.prog) c19 29 5 9 Tryz.underlying29 Tryz.underlying5 Tryz.underlying9
              go_simp
              refine hK _ _ ?_
              clear hK K
              clear k23
              refine take_put (i := 17) (d := 48) (v := ?_) rfl rfl (by kernel_rfl) (by kernel_rfl) (by kernel_rfl) (fun _ _ _ h => h) (Or.inl ⟨by rfl, ?_⟩) ?_
              rotate_left
              · intro w; go_simp; with_reducible rfl
              conv =>
                arg 7
                simp only [List.setIfInBounds_toArray, List.set_cons_succ, List.set_cons_zero]
              refine take_put (i := 18) (d := 49) (v := ?_) rfl rfl (by kernel_rfl) (by kernel_rfl) (by kernel_rfl) (fun _ _ _ h => h) (Or.inl ⟨by rfl, ?_⟩) ?_
              rotate_left
              · intro w; go_simp; with_reducible rfl
              conv =>
                arg 7
                simp only [List.setIfInBounds_toArray, List.set_cons_succ, List.set_cons_zero]
              refine take_put (i := 19) (d := 50) (v := ?_) rfl rfl (by kernel_rfl) (by kernel_rfl) (by kernel_rfl) (fun _ _ _ h => h) (Or.inl ⟨by rfl, ?_⟩) ?_
              rotate_left
              · intro w; go_simp; with_reducible rfl
              conv =>
                arg 7
                simp only [List.setIfInBounds_toArray, List.set_cons_succ, List.set_cons_zero]
              refine wpAny_done (by kernel_rfl) ?_ _
              go_wp2_with fail
              go_meet
              exact ⟨bb19, rfl⟩
          · skip
            have k24 := (HB.out.below (HB3.out.trans (b0.mono HB3.out.size))).conv (P := Tryz.prog) c 29 5 9 Tryz.underlying29 Tryz.underlying5 Tryz.underlying9
            go_simp
            refine hK _ _ ?_
            clear hK K
            clear k24
            refine wpAny_ready (rs := [13]) (by kernel_rfl) (by simp) ?_
            refine AllReady.cons rfl (fun K hK => ?_) (AllReady.nil)
            go_simp
            go_wp2_with (go_at_call 28; refine Calls.mono (putOp_any [v0, v1, v2, v3, v4, v5, v6] rfl _) ?_; rintro e wq25 ⟨z25, rfl, o25, bq25⟩)
            rw [Henc.out] at o25
            obtain ⟨A25, c25, rfl, _, _, r25⟩ := o25.shapeN Hl.out
            have bb25 : Below W8.heap.size W8 wq25 := b0.trans (bq25.mono b0.size)
            refine wpAny_ready (rs := [14]) (by kernel_rfl) (by simp) ?_
            refine AllReady.cons rfl (fun K hK => ?_) (AllReady.nil)
            have k26 := r25.conv (P := Tryz.prog) c25 29 5 9 Tryz.underlying29 Tryz.underlying5 Tryz.underlying9
            go_simp
            refine hK _ _ ?_
            clear hK K
            clear k26
            refine take_put (i := 17) (d := 48) (v := ?_) rfl rfl (by kernel_rfl) (by kernel_rfl) (by kernel_rfl) (fun _ _ _ h => h) (Or.inl ⟨by rfl, ?_⟩) ?_
            rotate_left
            · intro w; go_simp; with_reducible rfl
            conv =>
              arg 7
              simp only [List.setIfInBounds_toArray, List.set_cons_succ, List.set_cons_zero]
            refine take_put (i := 18) (d := 49) (v := ?_) rfl rfl (by kernel_rfl) (by kernel_rfl) (by kernel_rfl) (fun _ _ _ h => h) (Or.inl ⟨by rfl, ?_⟩) ?_
            rotate_left
            · intro w; go_simp; with_reducible rfl
            conv =>
              arg 7
              simp only [List.setIfInBounds_toArray, List.set_cons_succ, List.set_cons_zero]
            refine take_put (i := 19) (d := 50) (v := ?_) rfl rfl (by kernel_rfl) (by kernel_rfl) (by kernel_rfl) (fun _ _ _ h => h) (Or.inl ⟨by rfl, ?_⟩) ?_
            rotate_left
            · intro w; go_simp; with_reducible rfl
            conv =>
              arg 7
              simp only [List.setIfInBounds_toArray, List.set_cons_succ, List.set_cons_zero]
            refine wpAny_done (by kernel_rfl) ?_ _
            go_wp2_with fail
            go_meet
            exact ⟨bb25, rfl⟩
        · skip
          have k27 := (HB.out.below (HB3.out.trans (b0.mono HB3.out.size))).conv (P := Tryz.prog) c 29 5 9 Tryz.underlying29 Tryz.underlying5 Tryz.underlying9
          go_simp
          refine hK _ _ ?_
          clear hK K
          clear k27
          refine wpAny_ready (rs := [12]) (by kernel_rfl) (by simp) ?_
          refine AllReady.cons rfl (fun K hK => ?_) (AllReady.nil)
          have o0_28 := (HK4.out.below b0).cell 0
          have o1_28 := (HK4.out.below b0).cell 1
          have o2_28 := (HK4.out.below b0).cell 2
          have o3_28 := (HK4.out.below b0).cell 3
          have o4_28 := (HK4.out.below b0).cell 4
          have o5_28 := (HK4.out.below b0).cell 5
          have o6_28 := (HK4.out.below b0).cell 6
          go_simp
          refine hK _ _ ?_
          clear hK K
          clear o0_28 o1_28 o2_28 o3_28 o4_28 o5_28 o6_28
          refine wpAny_ready (rs := [13]) (by kernel_rfl) (by simp) ?_
          refine AllReady.cons rfl (fun K hK => ?_) (AllReady.nil)
          go_simp
          go_wp2_with (go_at_call 28; refine Calls.mono (putOp_any [v0, v1, v2, v3, v4, v5, v6] rfl _) ?_; rintro e wq29 ⟨z29, rfl, o29, bq29⟩)
          rw [Henc.out] at o29
          obtain ⟨A29, c29, rfl, _, _, r29⟩ := o29.shapeN Hl.out
          have bb29 : Below W8.heap.size W8 wq29 := b0.trans (bq29.mono b0.size)
          refine wpAny_ready (rs := [14]) (by kernel_rfl) (by simp) ?_
          refine AllReady.cons rfl (fun K hK => ?_) (AllReady.nil)
          have k30 := r29.conv (P := Tryz.prog) c29 29 5 9 Tryz.underlying29 Tryz.underlying5 Tryz.underlying9
          go_simp
          refine hK _ _ ?_
          clear hK K
          clear k30
          refine take_put (i := 17) (d := 48) (v := ?_) rfl rfl (by kernel_rfl) (by kernel_rfl) (by kernel_rfl) (fun _ _ _ h => h) (Or.inl ⟨by rfl, ?_⟩) ?_
          rotate_left
          · intro w; go_simp; with_reducible rfl
          conv =>
            arg 7
            simp only [List.setIfInBounds_toArray, List.set_cons_succ, List.set_cons_zero]
          refine take_put (i := 18) (d := 49) (v := ?_) rfl rfl (by kernel_rfl) (by kernel_rfl) (by kernel_rfl) (fun _ _ _ h => h) (Or.inl ⟨by rfl, ?_⟩) ?_
          rotate_left
          · intro w; go_simp; with_reducible rfl
          conv =>
            arg 7
            simp only [List.setIfInBounds_toArray, List.set_cons_succ, List.set_cons_zero]
          refine take_put (i := 19) (d := 50) (v := ?_) rfl rfl (by kernel_rfl) (by kernel_rfl) (by kernel_rfl) (fun _ _ _ h => h) (Or.inl ⟨by rfl, ?_⟩) ?_
          rotate_left
          · intro w; go_simp; with_reducible rfl
          conv =>
            arg 7
            simp only [List.setIfInBounds_toArray, List.set_cons_succ, List.set_cons_zero]
          refine wpAny_done (by kernel_rfl) ?_ _
          go_wp2_with fail
          go_meet
          exact ⟨bb29, rfl⟩
    · go_upto_region 6 with (fail)
      refine wp_region_any (by kernel_rfl) ?_
      change wpAny _ _ _ _ _ _ _ (World.drew _)
      refine wpAny_ready (rs := [0, 1]) (by kernel_rfl) (by simp) ?_
      refine AllReady.cons rfl (fun K hK => ?_) (AllReady.cons rfl (fun K hK => ?_) (AllReady.nil))
      · skip
        have o0_1 := (HK4.out.below b0).cell 0
        have o1_1 := (HK4.out.below b0).cell 1
        have o2_1 := (HK4.out.below b0).cell 2
        have o3_1 := (HK4.out.below b0).cell 3
        have o4_1 := (HK4.out.below b0).cell 4
        have o5_1 := (HK4.out.below b0).cell 5
        have o6_1 := (HK4.out.below b0).cell 6
        go_simp
        refine hK _ _ ?_
        clear hK K
        clear o0_1 o1_1 o2_1 o3_1 o4_1 o5_1 o6_1
        refine wpAny_ready (rs := [1]) (by kernel_rfl) (by simp) ?_
        refine AllReady.cons rfl (fun K hK => ?_) (AllReady.nil)
        have o0_2 := (HK6.out.below b0).cell 0
        have o1_2 := (HK6.out.below b0).cell 1
        have o2_2 := (HK6.out.below b0).cell 2
        have o3_2 := (HK6.out.below b0).cell 3
        have o4_2 := (HK6.out.below b0).cell 4
        have o5_2 := (HK6.out.below b0).cell 5
        have o6_2 := (HK6.out.below b0).cell 6
        go_simp
        refine hK _ _ ?_
        clear hK K
        clear o0_2 o1_2 o2_2 o3_2 o4_2 o5_2 o6_2
        refine take_put (i := 2) (d := 33) (v := ?_) rfl rfl (by kernel_rfl) (by kernel_rfl) (by kernel_rfl) (fun _ _ _ h => h) (Or.inl ⟨by rfl, ?_⟩) ?_
        rotate_left
        · intro w; go_simp; with_reducible rfl
        conv =>
          arg 7
          simp only [List.setIfInBounds_toArray, List.set_cons_succ, List.set_cons_zero]
        refine take_put (i := 3) (d := 34) (v := ?_) rfl rfl (by kernel_rfl) (by kernel_rfl) (by kernel_rfl) (fun _ _ _ h => h) (Or.inl ⟨by rfl, ?_⟩) ?_
        rotate_left
        · intro w; go_simp; with_reducible rfl
        conv =>
          arg 7
          simp only [List.setIfInBounds_toArray, List.set_cons_succ, List.set_cons_zero]
        refine take_put (i := 4) (d := 35) (v := ?_) rfl rfl (by kernel_rfl) (by kernel_rfl) (by kernel_rfl) (fun _ _ _ h => h) (Or.inl ⟨by rfl, ?_⟩) ?_
        rotate_left
        · intro w; go_simp; with_reducible rfl
        conv =>
          arg 7
          simp only [List.setIfInBounds_toArray, List.set_cons_succ, List.set_cons_zero]
        refine take_put (i := 5) (d := 36) (v := ?_) rfl rfl (by kernel_rfl) (by kernel_rfl) (by kernel_rfl) (fun _ _ _ h => h) (Or.inl ⟨by rfl, ?_⟩) ?_
        rotate_left
        · intro w; go_simp; with_reducible rfl
        conv =>
          arg 7
          simp only [List.setIfInBounds_toArray, List.set_cons_succ, List.set_cons_zero]
        refine take_put (i := 6) (d := 37) (v := ?_) rfl rfl (by kernel_rfl) (by kernel_rfl) (by kernel_rfl) (fun _ _ _ h => h) (Or.inl ⟨by rfl, ?_⟩) ?_
        rotate_left
        · intro w; go_simp; with_reducible rfl
        conv =>
          arg 7
          simp only [List.setIfInBounds_toArray, List.set_cons_succ, List.set_cons_zero]
        refine take_put (i := 7) (d := 38) (v := ?_) rfl rfl (by kernel_rfl) (by kernel_rfl) (by kernel_rfl) (fun _ _ _ h => h) (Or.inl ⟨by rfl, ?_⟩) ?_
        rotate_left
        · intro w; go_simp; with_reducible rfl
        conv =>
          arg 7
          simp only [List.setIfInBounds_toArray, List.set_cons_succ, List.set_cons_zero]
        refine take_put (i := 8) (d := 39) (v := ?_) rfl rfl (by kernel_rfl) (by kernel_rfl) (by kernel_rfl) (fun _ _ _ h => h) (Or.inl ⟨by rfl, ?_⟩) ?_
        rotate_left
        · intro w; go_simp; with_reducible rfl
        conv =>
          arg 7
          simp only [List.setIfInBounds_toArray, List.set_cons_succ, List.set_cons_zero]
        refine take_put (i := 9) (d := 40) (v := ?_) rfl rfl (by kernel_rfl) (by kernel_rfl) (by kernel_rfl) (fun _ _ _ h => h) (Or.inl ⟨by rfl, ?_⟩) ?_
        rotate_left
        · intro w; go_simp; with_reducible rfl
        conv =>
          arg 7
          simp only [List.setIfInBounds_toArray, List.set_cons_succ, List.set_cons_zero]
        refine take_put (i := 10) (d := 41) (v := ?_) rfl rfl (by kernel_rfl) (by kernel_rfl) (by kernel_rfl) (fun _ _ _ h => h) (Or.inl ⟨by rfl, ?_⟩) ?_
        rotate_left
        · intro w; go_simp; with_reducible rfl
        conv =>
          arg 7
          simp only [List.setIfInBounds_toArray, List.set_cons_succ, List.set_cons_zero]
        refine take_put (i := 11) (d := 42) (v := ?_) rfl rfl (by kernel_rfl) (by kernel_rfl) (by kernel_rfl) (fun _ _ _ h => h) (Or.inl ⟨by rfl, ?_⟩) ?_
        rotate_left
        · intro w; go_simp; with_reducible rfl
        conv =>
          arg 7
          simp only [List.setIfInBounds_toArray, List.set_cons_succ, List.set_cons_zero]
        refine take_put (i := 12) (d := 43) (v := undef) rfl rfl (by kernel_rfl) (by kernel_rfl) (by kernel_rfl) (fun _ _ _ h => h) (Or.inr ⟨by rfl, rfl⟩) ?_
        conv =>
          arg 7
          simp only [List.setIfInBounds_toArray, List.set_cons_succ, List.set_cons_zero]
        refine take_put (i := 13) (d := 44) (v := undef) rfl rfl (by kernel_rfl) (by kernel_rfl) (by kernel_rfl) (fun _ _ _ h => h) (Or.inr ⟨by rfl, rfl⟩) ?_
        conv =>
          arg 7
          simp only [List.setIfInBounds_toArray, List.set_cons_succ, List.set_cons_zero]
        refine take_put (i := 14) (d := 45) (v := undef) rfl rfl (by kernel_rfl) (by kernel_rfl) (by kernel_rfl) (fun _ _ _ h => h) (Or.inr ⟨by rfl, rfl⟩) ?_
        conv =>
          arg 7
          simp only [List.setIfInBounds_toArray, List.set_cons_succ, List.set_cons_zero]
        refine take_put (i := 15) (d := 46) (v := undef) rfl rfl (by kernel_rfl) (by kernel_rfl) (by kernel_rfl) (fun _ _ _ h => h) (Or.inr ⟨by rfl, rfl⟩) ?_
        conv =>
          arg 7
          simp only [List.setIfInBounds_toArray, List.set_cons_succ, List.set_cons_zero]
        refine take_put (i := 16) (d := 47) (v := undef) rfl rfl (by kernel_rfl) (by kernel_rfl) (by kernel_rfl) (fun _ _ _ h => h) (Or.inr ⟨by rfl, rfl⟩) ?_
        conv =>
          arg 7
          simp only [List.setIfInBounds_toArray, List.set_cons_succ, List.set_cons_zero]
        refine take_put (i := 17) (d := 48) (v := undef) rfl rfl (by kernel_rfl) (by kernel_rfl) (by kernel_rfl) (fun _ _ _ h => h) (Or.inr ⟨by rfl, rfl⟩) ?_
        conv =>
          arg 7
          simp only [List.setIfInBounds_toArray, List.set_cons_succ, List.set_cons_zero]
        refine take_put (i := 18) (d := 49) (v := ?_) rfl rfl (by kernel_rfl) (by kernel_rfl) (by kernel_rfl) (fun _ _ _ h => h) (Or.inl ⟨by rfl, ?_⟩) ?_
        rotate_left
        · intro w; go_simp; with_reducible rfl
        conv =>
          arg 7
          simp only [List.setIfInBounds_toArray, List.set_cons_succ, List.set_cons_zero]
        refine take_put (i := 19) (d := 50) (v := ?_) rfl rfl (by kernel_rfl) (by kernel_rfl) (by kernel_rfl) (fun _ _ _ h => h) (Or.inl ⟨by rfl, ?_⟩) ?_
        rotate_left
        · intro w; go_simp; with_reducible rfl
        conv =>
          arg 7
          simp only [List.setIfInBounds_toArray, List.set_cons_succ, List.set_cons_zero]
        refine wpAny_done (by kernel_rfl) ?_ _
        go_wp2_with fail
        go_meet
        exact ⟨b0, rfl⟩
      · skip
        have o0_3 := (HK6.out.below b0).cell 0
        have o1_3 := (HK6.out.below b0).cell 1
        have o2_3 := (HK6.out.below b0).cell 2
        have o3_3 := (HK6.out.below b0).cell 3
        have o4_3 := (HK6.out.below b0).cell 4
        have o5_3 := (HK6.out.below b0).cell 5
        have o6_3 := (HK6.out.below b0).cell 6
        go_simp
        refine hK _ _ ?_
        clear hK K
        clear o0_3 o1_3 o2_3 o3_3 o4_3 o5_3 o6_3
        refine wpAny_ready (rs := [0]) (by kernel_rfl) (by simp) ?_
        refine AllReady.cons rfl (fun K hK => ?_) (AllReady.nil)
        have o0_4 := (HK4.out.below b0).cell 0
        have o1_4 := (HK4.out.below b0).cell 1
        have o2_4 := (HK4.out.below b0).cell 2
        have o3_4 := (HK4.out.below b0).cell 3
        have o4_4 := (HK4.out.below b0).cell 4
        have o5_4 := (HK4.out.below b0).cell 5
        have o6_4 := (HK4.out.below b0).cell 6
        go_simp
        refine hK _ _ ?_
        clear hK K
        clear o0_4 o1_4 o2_4 o3_4 o4_4 o5_4 o6_4
        refine take_put (i := 2) (d := 33) (v := ?_) rfl rfl (by kernel_rfl) (by kernel_rfl) (by kernel_rfl) (fun _ _ _ h => h) (Or.inl ⟨by rfl, ?_⟩) ?_
        rotate_left
        · intro w; go_simp; with_reducible rfl
        conv =>
          arg 7
          simp only [List.setIfInBounds_toArray, List.set_cons_succ, List.set_cons_zero]
        refine take_put (i := 3) (d := 34) (v := ?_) rfl rfl (by kernel_rfl) (by kernel_rfl) (by kernel_rfl) (fun _ _ _ h => h) (Or.inl ⟨by rfl, ?_⟩) ?_
        rotate_left
        · intro w; go_simp; with_reducible rfl
        conv =>
          arg 7
          simp only [List.setIfInBounds_toArray, List.set_cons_succ, List.set_cons_zero]
        refine take_put (i := 4) (d := 35) (v := ?_) rfl rfl (by kernel_rfl) (by kernel_rfl) (by kernel_rfl) (fun _ _ _ h => h) (Or.inl ⟨by rfl, ?_⟩) ?_
        rotate_left
        · intro w; go_simp; with_reducible rfl
        conv =>
          arg 7
          simp only [List.setIfInBounds_toArray, List.set_cons_succ, List.set_cons_zero]
        refine take_put (i := 5) (d := 36) (v := ?_) rfl rfl (by kernel_rfl) (by kernel_rfl) (by kernel_rfl) (fun _ _ _ h => h) (Or.inl ⟨by rfl, ?_⟩) ?_
        rotate_left
        · intro w; go_simp; with_reducible rfl
        conv =>
          arg 7
          simp only [List.setIfInBounds_toArray, List.set_cons_succ, List.set_cons_zero]
        refine take_put (i := 6) (d := 37) (v := ?_) rfl rfl (by kernel_rfl) (by kernel_rfl) (by kernel_rfl) (fun _ _ _ h => h) (Or.inl ⟨by rfl, ?_⟩) ?_
        rotate_left
        · intro w; go_simp; with_reducible rfl
        conv =>
          arg 7
          simp only [List.setIfInBounds_toArray, List.set_cons_succ, List.set_cons_zero]
        refine take_put (i := 7) (d := 38) (v := ?_) rfl rfl (by kernel_rfl) (by kernel_rfl) (by kernel_rfl) (fun _ _ _ h => h) (Or.inl ⟨by rfl, ?_⟩) ?_
        rotate_left
        · intro w; go_simp; with_reducible rfl
        conv =>
          arg 7
          simp only [List.setIfInBounds_toArray, List.set_cons_succ, List.set_cons_zero]
        refine take_put (i := 8) (d := 39) (v := ?_) rfl rfl (by kernel_rfl) (by kernel_rfl) (by kernel_rfl) (fun _ _ _ h => h) (Or.inl ⟨by rfl, ?_⟩) ?_
        rotate_left
        · intro w; go_simp; with_reducible rfl
        conv =>
          arg 7
          simp only [List.setIfInBounds_toArray, List.set_cons_succ, List.set_cons_zero]
        refine take_put (i := 9) (d := 40) (v := ?_) rfl rfl (by kernel_rfl) (by kernel_rfl) (by kernel_rfl) (fun _ _ _ h => h) (Or.inl ⟨by rfl, ?_⟩) ?_
        rotate_left
        · intro w; go_simp; with_reducible rfl
        conv =>
          arg 7
          simp only [List.setIfInBounds_toArray, List.set_cons_succ, List.set_cons_zero]
        refine take_put (i := 10) (d := 41) (v := ?_) rfl rfl (by kernel_rfl) (by kernel_rfl) (by kernel_rfl) (fun _ _ _ h => h) (Or.inl ⟨by rfl, ?_⟩) ?_
        rotate_left
        · intro w; go_simp; with_reducible rfl
        conv =>
          arg 7
          simp only [List.setIfInBounds_toArray, List.set_cons_succ, List.set_cons_zero]
        refine take_put (i := 11) (d := 42) (v := ?_) rfl rfl (by kernel_rfl) (by kernel_rfl) (by kernel_rfl) (fun _ _ _ h => h) (Or.inl ⟨by rfl, ?_⟩) ?_
        rotate_left
        · intro w; go_simp; with_reducible rfl
        conv =>
          arg 7
          simp only [List.setIfInBounds_toArray, List.set_cons_succ, List.set_cons_zero]
        refine take_put (i := 12) (d := 43) (v := undef) rfl rfl (by kernel_rfl) (by kernel_rfl) (by kernel_rfl) (fun _ _ _ h => h) (Or.inr ⟨by rfl, rfl⟩) ?_
        conv =>
          arg 7
          simp only [List.setIfInBounds_toArray, List.set_cons_succ, List.set_cons_zero]
        refine take_put (i := 13) (d := 44) (v := undef) rfl rfl (by kernel_rfl) (by kernel_rfl) (by kernel_rfl) (fun _ _ _ h => h) (Or.inr ⟨by rfl, rfl⟩) ?_
        conv =>
          arg 7
          simp only [List.setIfInBounds_toArray, List.set_cons_succ, List.set_cons_zero]
        refine take_put (i := 14) (d := 45) (v := undef) rfl rfl (by kernel_rfl) (by kernel_rfl) (by kernel_rfl) (fun _ _ _ h => h) (Or.inr ⟨by rfl, rfl⟩) ?_
        conv =>
          arg 7
          simp only [List.setIfInBounds_toArray, List.set_cons_succ, List.set_cons_zero]
        refine take_put (i := 15) (d := 46) (v := undef) rfl rfl (by kernel_rfl) (by kernel_rfl) (by kernel_rfl) (fun _ _ _ h => h) (Or.inr ⟨by rfl, rfl⟩) ?_
        conv =>
          arg 7
          simp only [List.setIfInBounds_toArray, List.set_cons_succ, List.set_cons_zero]
        refine take_put (i := 16) (d := 47) (v := undef) rfl rfl (by kernel_rfl) (by kernel_rfl) (by kernel_rfl) (fun _ _ _ h => h) (Or.inr ⟨by rfl, rfl⟩) ?_
        conv =>
          arg 7
          simp only [List.setIfInBounds_toArray, List.set_cons_succ, List.set_cons_zero]
        refine take_put (i := 17) (d := 48) (v := undef) rfl rfl (by kernel_rfl) (by kernel_rfl) (by kernel_rfl) (fun _ _ _ h => h) (Or.inr ⟨by rfl, rfl⟩) ?_
        conv =>
          arg 7
          simp only [List.setIfInBounds_toArray, List.set_cons_succ, List.set_cons_zero]
        refine take_put (i := 18) (d := 49) (v := ?_) rfl rfl (by kernel_rfl) (by kernel_rfl) (by kernel_rfl) (fun _ _ _ h => h) (Or.inl ⟨by rfl, ?_⟩) ?_
        rotate_left
        · intro w; go_simp; with_reducible rfl
        conv =>
          arg 7
          simp only [List.setIfInBounds_toArray, List.set_cons_succ, List.set_cons_zero]
        refine take_put (i := 19) (d := 50) (v := ?_) rfl rfl (by kernel_rfl) (by kernel_rfl) (by kernel_rfl) (fun _ _ _ h => h) (Or.inl ⟨by rfl, ?_⟩) ?_
        rotate_left
        · intro w; go_simp; with_reducible rfl
        conv =>
          arg 7
          simp only [List.setIfInBounds_toArray, List.set_cons_succ, List.set_cons_zero]
        refine wpAny_done (by kernel_rfl) ?_ _
        go_wp2_with fail
        go_meet
        exact ⟨b0, rfl⟩
    -- end 6
  case rest =>
    obtain ⟨bc, rfl⟩ := hcut
    have Bq := Lib.hid (HB3.out.trans (bc.mono HB3.out.size))
    have Bx := Lib.hid (HB13.out.trans (bc.mono HB13.out.size))
    clear hcase bc
    have SG := getHeap_any Ax n cx b wc ((lent_head HX.out.1 Hl.out).below Bx.out) (by omega) (HT.out.below Bq.out)
    go_wp2_with fail
    refine SG.mono ?_
    rintro e w4 ⟨b4, he⟩
    obtain ⟨H, ⟨A1, n1, c1, F1, m1, d1⟩, os, er, rfl, u1⟩ := GotH.uni ⟨b4, he⟩
    clear he SG
    have Hsm := Lib.hid u1.small
    simp only [hcs]
    have bA := (Below.refl w4.heap.size w4).alloc (Nat.le_refl _) (.cells #[.int .i64 H.od, .slice A1 n1 c1, .int .i64 H.nx, .int .i64 (tget H 0), .int .i64 (tget H 1), .int .i64 (tget H 2), .int .i64 (tget H 3), .slice F1 m1 d1] 26)
    have K8 := Whole.new w4 #[.int .i64 H.od, .slice A1 n1 c1, .int .i64 H.nx, .int .i64 (tget H 0), .int .i64 (tget H 1), .int .i64 (tget H 2), .int .i64 (tget H 3), .slice F1 m1 d1] 26
    have b4A := b4.trans (bA.mono b4.size)
    have B4 := Bq.out.trans (b4A.mono Bq.out.size)
    have BX4 := Bx.out.trans (b4A.mono Bx.out.size)
    have R8 := u1.own.rd.below bA
    obtain ⟨p8, hp8⟩ : ∃ p8, p8 = w4.heap.size := ⟨_, rfl⟩
    rw [← hp8] at K8
    clear b4 bA b4A
    go_upto_region 9 with (fail)
    rw [← hp8]
    generalize w4.alloc (.cells #[.int .i64 H.od, .slice A1 n1 c1, .int .i64 H.nx, .int .i64 (tget H 0), .int .i64 (tget H 1), .int .i64 (tget H 2), .int .i64 (tget H 3), .slice F1 m1 d1] 26) = W4 at K8 B4 BX4 R8 ⊢
    clear hp8
    have SR := refGetHeap_any A n c b W4 (HB.out.below B4) HC.out.1 HC.out.2
    go_wp2_with fail
    refine SR.mono ?_
    rintro e w5 ⟨b5, he⟩
    obtain ⟨K, ⟨A2, n2, c2, F2, m2, d2⟩, ot, fr, rfl, u2⟩ := GotH.uni ⟨b5, he⟩
    obtain ⟨hK, hfr⟩ := u1.same u2
    have hK := hK.symm
    subst hK
    subst hfr
    clear he SR
    simp only [hcs]
    have bA := (Below.refl w5.heap.size w5).alloc (Nat.le_refl _) (.cells #[.int .i64 H.od, .slice A2 n2 c2, .int .i64 H.nx, .int .i64 (tget H 0), .int .i64 (tget H 1), .int .i64 (tget H 2), .int .i64 (tget H 3), .slice F2 m2 d2] 26)
    have K9 := Whole.new w5 #[.int .i64 H.od, .slice A2 n2 c2, .int .i64 H.nx, .int .i64 (tget H 0), .int .i64 (tget H 1), .int .i64 (tget H 2), .int .i64 (tget H 3), .slice F2 m2 d2] 26
    have b5A := b5.trans (bA.mono b5.size)
    have B5 := B4.trans (b5A.mono B4.size)
    have BX5 := BX4.trans (b5A.mono BX4.size)
    have R8' := R8.below b5A
    have K8' := K8.below b5A
    have R9 := u2.own.rd.below bA
    obtain ⟨p9, hp9⟩ : ∃ p9, p9 = w5.heap.size := ⟨_, rfl⟩
    rw [← hp9] at K9
    have U1 := Lib.hid u1
    clear b5 bA b5A u2 R8 K8 B4 BX4 u1
    go_upto_region 10 with (fail)
    rw [← hp9]
    generalize w5.alloc (.cells #[.int .i64 H.od, .slice A2 n2 c2, .int .i64 H.nx, .int .i64 (tget H 0), .int .i64 (tget H 1), .int .i64 (tget H 2), .int .i64 (tget H 3), .slice F2 m2 d2] 26) = W5 at K8' K9 B5 BX5 R8' R9 ⊢
    clear hp9
    have SP := putHeap_any ⟨A1, n1, c1, F1, m1, d1⟩ H W5 R8' Hsm.out.1 (HT.out.below B5) Hsm.out.2
    simp only [hval, hcs] at SP
    obtain ⟨c0, c1', c2', c3, c4, c5, c6, c7'⟩ := K8'.eight
    go_wp2_with fail
    refine SP.mono ?_
    rintro e w6 hput
    obtain ⟨A7, n7, c7, f7, Y, rfl, b6, r7, hY⟩ := U1.out.laid hput
    have K8 := K8'.below b6
    have K9' := K9.below b6
    have B6 := B5.trans (b6.mono B5.size)
    have BX6 := BX5.trans (b6.mono BX5.size)
    have SM := refSameH_any ⟨A1, n1, c1, F1, m1, d1⟩ ⟨A2, n2, c2, F2, m2, d2⟩ H H w6 (R8'.below b6) (R9.below b6) Hsm.out.1
    rw [decide_eq_true rfl] at SM
    simp only [hval, hcs] at SM
    have HY := Lib.hid hY
    clear SP c0 c1' c2' c3 c4 c5 c6 c7' hput hY
    obtain ⟨c0, c1', c2', c3, c4, c5, c6, c7'⟩ := K8.eight
    obtain ⟨d0, d1', d2', d3, d4, d5, d6, d7⟩ := K9'.eight
    have Hq6 := Lib.hid B6
    have Hx6 := Lib.hid BX6
    have hne := boolNe_self fr
    clear R8' R9 K8' K9 B5 BX5 b6 B6 BX6 K8 K9'
    go_upto_region 11 with (fail)
    obtain ⟨W9, hW9⟩ : ∃ W9, W9 = w6 := ⟨_, rfl⟩
    subst hW9
    go_cut [85] (fun v wc => Below W9.heap.size W9 wc ∧ v = .bool false)
    case first =>
      by_cases he0 : fr = 0
      · have he1 : (fr == 0) = true := by simp [he0]
        obtain rfl : Y = b := HY.out he0
        clear he0
        go_wp2_with fail
        refine SM.mono ?_
        rintro e w7 ⟨rfl, g7⟩
        have b7 := g7.below
        have k1 := (r7.below b7).conv (P := Tryz.prog) c7 29 5 9 Tryz.underlying29 Tryz.underlying5 Tryz.underlying9
        have k2 := (HB.out.below (Hq6.out.trans (b7.mono Hq6.out.size))).conv (P := Tryz.prog) c 29 5 9 Tryz.underlying29 Tryz.underlying5 Tryz.underlying9
        have B7 := Lib.hid b7
        clear SM c0 c1' c2' c3 c4 c5 c6 c7' d0 d1' d2' d3 d4 d5 d6 d7 g7 b7
        go_wp2_with fail
        go_meet
        exact ⟨B7.out, rfl⟩
      · have he1 : (fr == 0) = false := by simp [he0]
        clear he0
        go_wp2_with fail
        refine SM.mono ?_
        rintro e w7 ⟨rfl, g7⟩
        have B7 := Lib.hid g7.below
        clear SM c0 c1' c2' c3 c4 c5 c6 c7' d0 d1' d2' d3 d4 d5 d6 d7 g7
        go_wp2_with fail
        go_meet
        exact ⟨B7.out, rfl⟩
    case rest =>
      clear SM c0 c1' c2' c3 c4 c5 c6 c7' d0 d1' d2' d3 d4 d5 d6 d7 hne r7 HY U1 Hsm
      obtain ⟨bc, rfl⟩ := hcut
      have Bq := Lib.hid (Hq6.out.trans (bc.mono Hq6.out.size))
      have Bx := Lib.hid (Hx6.out.trans (bc.mono Hx6.out.size))
      clear bc
      have SG := getState_any Ax n cx b wc ((lent_head HX.out.1 Hl.out).below Bx.out) (by omega) (HT.out.below Bq.out)
      go_wp2_with fail
      refine SG.mono ?_
      rintro e w4 ⟨b4, he⟩
      obtain ⟨⟨H, rs⟩, ⟨⟨A1, n1, c1, F1, m1, d1⟩, R1, q1, s1⟩, os, er, rfl, u1⟩ := GotS.uni ⟨b4, he⟩
      clear he SG
      have Hsm := Lib.hid u1.small
      simp only [scs, hcs, List.cons_append, List.nil_append]
      have bA := (Below.refl w4.heap.size w4).alloc (Nat.le_refl _) (.cells #[.int .i64 H.od, .slice A1 n1 c1, .int .i64 H.nx, .int .i64 (tget H 0), .int .i64 (tget H 1), .int .i64 (tget H 2), .int .i64 (tget H 3), .slice F1 m1 d1, .slice R1 q1 s1] 39)
      have K8 := Whole.new w4 #[.int .i64 H.od, .slice A1 n1 c1, .int .i64 H.nx, .int .i64 (tget H 0), .int .i64 (tget H 1), .int .i64 (tget H 2), .int .i64 (tget H 3), .slice F1 m1 d1, .slice R1 q1 s1] 39
      have b4A := b4.trans (bA.mono b4.size)
      have B4 := Bq.out.trans (b4A.mono Bq.out.size)
      have BX4 := Bx.out.trans (b4A.mono Bx.out.size)
      have R8 := u1.own.rd.below bA
      obtain ⟨p8, hp8⟩ : ∃ p8, p8 = w4.heap.size := ⟨_, rfl⟩
      rw [← hp8] at K8
      clear b4 bA b4A
      go_upto_region 14 with (fail)
      rw [← hp8]
      generalize w4.alloc (.cells #[.int .i64 H.od, .slice A1 n1 c1, .int .i64 H.nx, .int .i64 (tget H 0), .int .i64 (tget H 1), .int .i64 (tget H 2), .int .i64 (tget H 3), .slice F1 m1 d1, .slice R1 q1 s1] 39) = W4 at K8 B4 BX4 R8 ⊢
      clear hp8
      have SR := refGetState_any A n c b W4 (HB.out.below B4) HC.out.1 HC.out.2
      go_wp2_with fail
      refine SR.mono ?_
      rintro e w5 ⟨b5, he⟩
      obtain ⟨K, ⟨⟨A2, n2, c2, F2, m2, d2⟩, R2, q2, s2⟩, ot, fr, rfl, u2⟩ := GotS.uni ⟨b5, he⟩
      obtain ⟨hK, hfr⟩ := u1.same u2
      have hK := hK.symm
      subst hK
      subst hfr
      clear he SR
      simp only [scs, hcs, List.cons_append, List.nil_append]
      have bA := (Below.refl w5.heap.size w5).alloc (Nat.le_refl _) (.cells #[.int .i64 H.od, .slice A2 n2 c2, .int .i64 H.nx, .int .i64 (tget H 0), .int .i64 (tget H 1), .int .i64 (tget H 2), .int .i64 (tget H 3), .slice F2 m2 d2, .slice R2 q2 s2] 39)
      have K9 := Whole.new w5 #[.int .i64 H.od, .slice A2 n2 c2, .int .i64 H.nx, .int .i64 (tget H 0), .int .i64 (tget H 1), .int .i64 (tget H 2), .int .i64 (tget H 3), .slice F2 m2 d2, .slice R2 q2 s2] 39
      have b5A := b5.trans (bA.mono b5.size)
      have B5 := B4.trans (b5A.mono B4.size)
      have BX5 := BX4.trans (b5A.mono BX4.size)
      have R8' := R8.below b5A
      have K8' := K8.below b5A
      have R9 := u2.own.rd.below bA
      obtain ⟨p9, hp9⟩ : ∃ p9, p9 = w5.heap.size := ⟨_, rfl⟩
      rw [← hp9] at K9
      have U1 := Lib.hid u1
      clear b5 bA b5A u2 R8 K8 B4 BX4 u1
      go_upto_region 15 with (fail)
      rw [← hp9]
      generalize w5.alloc (.cells #[.int .i64 H.od, .slice A2 n2 c2, .int .i64 H.nx, .int .i64 (tget H 0), .int .i64 (tget H 1), .int .i64 (tget H 2), .int .i64 (tget H 3), .slice F2 m2 d2, .slice R2 q2 s2] 39) = W5 at K8' K9 B5 BX5 R8' R9 ⊢
      clear hp9
      have SP := putState_any ⟨⟨A1, n1, c1, F1, m1, d1⟩, R1, q1, s1⟩ ⟨H, rs⟩ W5 R8' Hsm.out.1 (HT.out.below B5) Hsm.out.2
      simp only [sval, scs, hcs, List.cons_append, List.nil_append] at SP
      obtain ⟨c0, c1', c2', c3, c4, c5, c6, c7', c8⟩ := K8'.nine
      go_wp2_with fail
      refine SP.mono ?_
      rintro e w6 hput
      obtain ⟨A7, n7, c7, f7, Y, rfl, b6, r7, hY⟩ := U1.out.laid hput
      have K8 := K8'.below b6
      have K9' := K9.below b6
      have B6 := B5.trans (b6.mono B5.size)
      have BX6 := BX5.trans (b6.mono BX5.size)
      have SM := refSameS_any ⟨⟨A1, n1, c1, F1, m1, d1⟩, R1, q1, s1⟩ ⟨⟨A2, n2, c2, F2, m2, d2⟩, R2, q2, s2⟩ ⟨H, rs⟩ ⟨H, rs⟩ w6 (R8'.below b6) (R9.below b6) Hsm.out.1
      rw [decide_eq_true rfl] at SM
      simp only [sval, scs, hcs, List.cons_append, List.nil_append] at SM
      have HY := Lib.hid hY
      clear SP c0 c1' c2' c3 c4 c5 c6 c7' c8 hput hY
      obtain ⟨c0, c1', c2', c3, c4, c5, c6, c7', c8⟩ := K8.nine
      obtain ⟨d0, d1', d2', d3, d4, d5, d6, d7, d8⟩ := K9'.nine
      have Hq6 := Lib.hid B6
      have Hx6 := Lib.hid BX6
      have hne := boolNe_self fr
      clear R8' R9 K8' K9 B5 BX5 b6 B6 BX6 K8 K9'
      go_upto_region 16 with (fail)
      obtain ⟨W9, hW9⟩ : ∃ W9, W9 = w6 := ⟨_, rfl⟩
      subst hW9
      go_cut [120] (fun v wc => Below W9.heap.size W9 wc ∧ v = .bool false)
      case first =>
        by_cases he0 : fr = 0
        · have he1 : (fr == 0) = true := by simp [he0]
          obtain rfl : Y = b := HY.out he0
          clear he0
          go_wp2_with fail
          refine SM.mono ?_
          rintro e w7 ⟨rfl, g7⟩
          have b7 := g7.below
          have k1 := (r7.below b7).conv (P := Tryz.prog) c7 29 5 9 Tryz.underlying29 Tryz.underlying5 Tryz.underlying9
          have k2 := (HB.out.below (Hq6.out.trans (b7.mono Hq6.out.size))).conv (P := Tryz.prog) c 29 5 9 Tryz.underlying29 Tryz.underlying5 Tryz.underlying9
          have B7 := Lib.hid b7
          clear SM c0 c1' c2' c3 c4 c5 c6 c7' c8 d0 d1' d2' d3 d4 d5 d6 d7 d8 g7 b7
          go_wp2_with fail
          go_meet
          exact ⟨B7.out, rfl⟩
        · have he1 : (fr == 0) = false := by simp [he0]
          clear he0
          go_wp2_with fail
          refine SM.mono ?_
          rintro e w7 ⟨rfl, g7⟩
          have B7 := Lib.hid g7.below
          clear SM c0 c1' c2' c3 c4 c5 c6 c7' c8 d0 d1' d2' d3 d4 d5 d6 d7 d8 g7
          go_wp2_with fail
          go_meet
          exact ⟨B7.out, rfl⟩
      case rest =>
        clear SM c0 c1' c2' c3 c4 c5 c6 c7' c8 d0 d1' d2' d3 d4 d5 d6 d7 d8 hne r7 HY U1 Hsm
        obtain ⟨bc, rfl⟩ := hcut
        have Bq := Lib.hid (Hq6.out.trans (bc.mono Hq6.out.size))
        have Bx := Lib.hid (Hx6.out.trans (bc.mono Hx6.out.size))
        clear bc
        go_wp2_with fail
        refine (ops_holds wc).mono ?_
        rintro e wa ⟨rfl, ba⟩
        have Ba := Lib.hid (Bq.out.trans (ba.mono Bq.out.size))
        have Xa := Lib.hid (Bx.out.trans (ba.mono Bx.out.size))
        clear ba
        go_wp2_with fail
        refine (heaps_holds wa (HT.out.below Ba.out)).mono ?_
        rintro e wb ⟨rfl, bb⟩
        have Bb := Lib.hid (Ba.out.trans (bb.mono Ba.out.size))
        have Xb := Lib.hid (Xa.out.trans (bb.mono Xa.out.size))
        clear bb
        go_wp2_with fail
        refine (states_holds wb (HT.out.below Bb.out)).mono ?_
        rintro e wd ⟨rfl, bd⟩
        have Bd := Lib.hid (Bb.out.trans (bd.mono Bb.out.size))
        have Xd := Lib.hid (Xb.out.trans (bd.mono Xb.out.size))
        clear bd
        go_wp2_with fail
        refine (kept_yes Ax A n cx c b wd (HX.out.1.below Xd.out) HX.out.2.1 HX.out.2.2 (HB.out.below Bd.out)).mono ?_
        rintro e we ⟨rfl, rfl⟩
        go_wp2
        go_ret
        exact ⟨rfl, Bd.out⟩
end Go.Proofs.YtlnmmklpccppmaaGreatDoor
