/-
  The walk of the law BitsReads: it says true, whatever came in, and nothing that was there is written over.
-/
import Derived.Test.YtjfcgjmiianmkaaDoorBitsLawD
import Derived.Test.YtjfcgjmiianmkaaDoorLend
import Derived.Test.YtjfcgjmiianmkaaDoorRegion
namespace Go.Proofs.YtjfcgjmiianmkaaDoor
open Go.RowKit

set_option maxRecDepth 100000 in
set_option maxHeartbeats 4000000 in
theorem bitsReads_walk (n : Int) (A : Option Addr) (k c : Nat) (b : List UInt8) (w : World) (hT : Tab w) (hb : Rd w A k b) :
    Calls Tryd.prog 4 #[.int .i64 n, .slice A k c] w (Holds w) := by
  by_cases hk : 5000 < k
  · go_enter Tryd.func4, Tryd.ntmps4
    go_wp2
    go_ret
    exact ⟨rfl, Below.refl _ _⟩
  have Hl := Lib.hid hb.len
  have hT0 := hT.lt
  go_enter Tryd.func4, Tryd.ntmps4
  go_wp2_with fail
  refine (lent_own A k c b w hb (by omega)).mono ?_
  rintro e w1 ⟨gx, cx, rfl, hcx, hmx, hgx, ox, b1⟩
  rw [Hl.out] at hcx ox ⊢
  obtain ⟨r6, rx⟩ := lent_rd Hl.out ox
  have hb1 := hb.below b1
  have hT1 := hT.below b1
  have hmx2 := hmx
  unfold maxLen at hmx2
  have hgl : gx < w1.heap.size := (ox.lt gx rfl).2
  have HX := Lib.hid hcx
  have HM := Lib.hid hmx
  clear hcx hmx
  cases hrd : readB n b with
  | false =>
    have R := read_no n _ k cx b w1 rx hrd
    go_wp2_with fail
    refine R.mono ?_
    rintro e w2 ⟨rfl, b2⟩
    have R2 := refRead_no n A k c b w2 (hb1.below b2) hrd
    clear R hrd
    go_wp2_with fail
    refine R2.mono ?_
    rintro e w3 ⟨rfl, b3⟩
    have b23 := b2.trans (b3.mono b2.size)
    clear R2
    go_wp2_with fail
    refine (kept_yes _ A k cx c b w3 (r6.below b23) HX.out HM.out (hb1.below b23)).mono ?_
    rintro e w4 ⟨rfl, rfl⟩
    have b13 := b1.trans (b23.mono b1.size)
    have ox3 := ox.below b23
    have hT3 := hT1.below b23
    clear ox r6 rx
    have hsz3 := b23.size
    go_wp2_with fail
    go_loopw [10] (OverRel w.heap.size gx k (k + 6) cx w3) (fun v _ => k - (intOf v).toNat)
    case atStart => exact ⟨0, Nat.zero_le _, rfl, ⟨_, by rw [List.length_append, Hl.out, pad_length], ox3⟩, grown_refl _ _⟩
    case round =>
      clear ox3
      obtain ⟨j, hj, rfl, ⟨l2, hl2, o4⟩, g4⟩ := hrel
      by_cases hlt : j < k
      · obtain ⟨⟨u, hu⟩, hf, ho, hg⟩ := over_step (k := j) (by omega) hl2 o4 g4 255
        clear hl2 o4
        go_wp2
        exact ⟨⟨j + 1, by omega, by go_num, ho, hg⟩, by simp [intOf]; omega⟩
      · obtain rfl : j = k := by omega
        clear hl2 o4
        have b4 : Below w.heap.size w wr := below_grown b13 g4 (Nat.le_trans b1.size hsz3) hgx
        have hT4 : Tab wr := hT3.beside g4 (by omega)
        have HA : Hid (∀ W : World, Below wr.heap.size wr W → Calls Tryd.prog 11 #[] W (Holds W)) := Lib.hid fun W hW => awake_any W (hT4.below hW)
        -- region, no map
        go_wp2_with fail
        refine wp_region_any (by kernel_rfl) ?_
        change wpAny _ _ _ _ _ _ _ (World.drew _)
        refine wpAny_ready (rs := [0]) (by kernel_rfl) (by simp) ?_
        refine AllReady.cons rfl (fun K hK => ?_) (AllReady.nil)
        go_simp
        go_wp2_with (go_at_call 11; refine Calls.mono (HA.out _ (Below.refl _ _).drew) ?_; rintro e wq1 ⟨rfl, bq1⟩)
        have bb1 : Below wr.heap.size wr wq1 := (Below.refl _ wr).drew.trans bq1
        clear HA
        refine take_put (i := 1) (d := 54) (v := ?_) rfl rfl (by kernel_rfl) (by kernel_rfl) (by kernel_rfl) (fun _ _ _ h => h) (Or.inl ⟨by rfl, ?_⟩) ?_
        rotate_left
        · intro w; go_simp; with_reducible rfl
        conv =>
          arg 7
          simp only [List.setIfInBounds_toArray, List.set_cons_succ, List.set_cons_zero]
        refine take_put (i := 2) (d := 55) (v := ?_) rfl rfl (by kernel_rfl) (by kernel_rfl) (by kernel_rfl) (fun _ _ _ h => h) (Or.inl ⟨by rfl, ?_⟩) ?_
        rotate_left
        · intro w; go_simp; with_reducible rfl
        conv =>
          arg 7
          simp only [List.setIfInBounds_toArray, List.set_cons_succ, List.set_cons_zero]
        refine take_put (i := 3) (d := 56) (v := ?_) rfl rfl (by kernel_rfl) (by kernel_rfl) (by kernel_rfl) (fun _ _ _ h => h) (Or.inl ⟨by rfl, ?_⟩) ?_
        rotate_left
        · intro w; go_simp; with_reducible rfl
        conv =>
          arg 7
          simp only [List.setIfInBounds_toArray, List.set_cons_succ, List.set_cons_zero]
        refine take_put (i := 4) (d := 57) (v := ?_) rfl rfl (by kernel_rfl) (by kernel_rfl) (by kernel_rfl) (fun _ _ _ h => h) (Or.inl ⟨by rfl, ?_⟩) ?_
        rotate_left
        · intro w; go_simp; with_reducible rfl
        conv =>
          arg 7
          simp only [List.setIfInBounds_toArray, List.set_cons_succ, List.set_cons_zero]
        refine take_put (i := 5) (d := 58) (v := undef) rfl rfl (by kernel_rfl) (by kernel_rfl) (by kernel_rfl) (fun _ _ _ h => h) (Or.inr ⟨by rfl, rfl⟩) ?_
        conv =>
          arg 7
          simp only [List.setIfInBounds_toArray, List.set_cons_succ, List.set_cons_zero]
        refine take_put (i := 6) (d := 59) (v := undef) rfl rfl (by kernel_rfl) (by kernel_rfl) (by kernel_rfl) (fun _ _ _ h => h) (Or.inr ⟨by rfl, rfl⟩) ?_
        conv =>
          arg 7
          simp only [List.setIfInBounds_toArray, List.set_cons_succ, List.set_cons_zero]
        refine take_put (i := 7) (d := 60) (v := undef) rfl rfl (by kernel_rfl) (by kernel_rfl) (by kernel_rfl) (fun _ _ _ h => h) (Or.inr ⟨by rfl, rfl⟩) ?_
        conv =>
          arg 7
          simp only [List.setIfInBounds_toArray, List.set_cons_succ, List.set_cons_zero]
        refine take_put (i := 8) (d := 61) (v := undef) rfl rfl (by kernel_rfl) (by kernel_rfl) (by kernel_rfl) (fun _ _ _ h => h) (Or.inr ⟨by rfl, rfl⟩) ?_
        conv =>
          arg 7
          simp only [List.setIfInBounds_toArray, List.set_cons_succ, List.set_cons_zero]
        refine take_put (i := 9) (d := 62) (v := undef) rfl rfl (by kernel_rfl) (by kernel_rfl) (by kernel_rfl) (fun _ _ _ h => h) (Or.inr ⟨by rfl, rfl⟩) ?_
        conv =>
          arg 7
          simp only [List.setIfInBounds_toArray, List.set_cons_succ, List.set_cons_zero]
        refine take_put (i := 10) (d := 63) (v := undef) rfl rfl (by kernel_rfl) (by kernel_rfl) (by kernel_rfl) (fun _ _ _ h => h) (Or.inr ⟨by rfl, rfl⟩) ?_
        conv =>
          arg 7
          simp only [List.setIfInBounds_toArray, List.set_cons_succ, List.set_cons_zero]
        refine take_put (i := 11) (d := 64) (v := undef) rfl rfl (by kernel_rfl) (by kernel_rfl) (by kernel_rfl) (fun _ _ _ h => h) (Or.inr ⟨by rfl, rfl⟩) ?_
        conv =>
          arg 7
          simp only [List.setIfInBounds_toArray, List.set_cons_succ, List.set_cons_zero]
        refine take_put (i := 12) (d := 65) (v := undef) rfl rfl (by kernel_rfl) (by kernel_rfl) (by kernel_rfl) (fun _ _ _ h => h) (Or.inr ⟨by rfl, rfl⟩) ?_
        conv =>
          arg 7
          simp only [List.setIfInBounds_toArray, List.set_cons_succ, List.set_cons_zero]
        refine take_put (i := 13) (d := 66) (v := undef) rfl rfl (by kernel_rfl) (by kernel_rfl) (by kernel_rfl) (fun _ _ _ h => h) (Or.inr ⟨by rfl, rfl⟩) ?_
        conv =>
          arg 7
          simp only [List.setIfInBounds_toArray, List.set_cons_succ, List.set_cons_zero]
        refine take_put (i := 14) (d := 67) (v := undef) rfl rfl (by kernel_rfl) (by kernel_rfl) (by kernel_rfl) (fun _ _ _ h => h) (Or.inr ⟨by rfl, rfl⟩) ?_
        conv =>
          arg 7
          simp only [List.setIfInBounds_toArray, List.set_cons_succ, List.set_cons_zero]
        refine take_put (i := 15) (d := 68) (v := undef) rfl rfl (by kernel_rfl) (by kernel_rfl) (by kernel_rfl) (fun _ _ _ h => h) (Or.inr ⟨by rfl, rfl⟩) ?_
        conv =>
          arg 7
          simp only [List.setIfInBounds_toArray, List.set_cons_succ, List.set_cons_zero]
        refine take_put (i := 16) (d := 69) (v := undef) rfl rfl (by kernel_rfl) (by kernel_rfl) (by kernel_rfl) (fun _ _ _ h => h) (Or.inr ⟨by rfl, rfl⟩) ?_
        conv =>
          arg 7
          simp only [List.setIfInBounds_toArray, List.set_cons_succ, List.set_cons_zero]
        refine take_put (i := 17) (d := 70) (v := undef) rfl rfl (by kernel_rfl) (by kernel_rfl) (by kernel_rfl) (fun _ _ _ h => h) (Or.inr ⟨by rfl, rfl⟩) ?_
        conv =>
          arg 7
          simp only [List.setIfInBounds_toArray, List.set_cons_succ, List.set_cons_zero]
        refine take_put (i := 18) (d := 71) (v := undef) rfl rfl (by kernel_rfl) (by kernel_rfl) (by kernel_rfl) (fun _ _ _ h => h) (Or.inr ⟨by rfl, rfl⟩) ?_
        conv =>
          arg 7
          simp only [List.setIfInBounds_toArray, List.set_cons_succ, List.set_cons_zero]
        refine take_put (i := 19) (d := 72) (v := undef) rfl rfl (by kernel_rfl) (by kernel_rfl) (by kernel_rfl) (fun _ _ _ h => h) (Or.inr ⟨by rfl, rfl⟩) ?_
        conv =>
          arg 7
          simp only [List.setIfInBounds_toArray, List.set_cons_succ, List.set_cons_zero]
        refine take_put (i := 20) (d := 73) (v := undef) rfl rfl (by kernel_rfl) (by kernel_rfl) (by kernel_rfl) (fun _ _ _ h => h) (Or.inr ⟨by rfl, rfl⟩) ?_
        conv =>
          arg 7
          simp only [List.setIfInBounds_toArray, List.set_cons_succ, List.set_cons_zero]
        refine take_put (i := 21) (d := 74) (v := undef) rfl rfl (by kernel_rfl) (by kernel_rfl) (by kernel_rfl) (fun _ _ _ h => h) (Or.inr ⟨by rfl, rfl⟩) ?_
        conv =>
          arg 7
          simp only [List.setIfInBounds_toArray, List.set_cons_succ, List.set_cons_zero]
        refine take_put (i := 22) (d := 75) (v := undef) rfl rfl (by kernel_rfl) (by kernel_rfl) (by kernel_rfl) (fun _ _ _ h => h) (Or.inr ⟨by rfl, rfl⟩) ?_
        conv =>
          arg 7
          simp only [List.setIfInBounds_toArray, List.set_cons_succ, List.set_cons_zero]
        refine take_put (i := 23) (d := 76) (v := undef) rfl rfl (by kernel_rfl) (by kernel_rfl) (by kernel_rfl) (fun _ _ _ h => h) (Or.inr ⟨by rfl, rfl⟩) ?_
        conv =>
          arg 7
          simp only [List.setIfInBounds_toArray, List.set_cons_succ, List.set_cons_zero]
        refine take_put (i := 24) (d := 77) (v := ?_) rfl rfl (by kernel_rfl) (by kernel_rfl) (by kernel_rfl) (fun _ _ _ h => h) (Or.inl ⟨by rfl, ?_⟩) ?_
        rotate_left
        · intro w; go_simp; with_reducible rfl
        conv =>
          arg 7
          simp only [List.setIfInBounds_toArray, List.set_cons_succ, List.set_cons_zero]
        refine take_put (i := 25) (d := 78) (v := ?_) rfl rfl (by kernel_rfl) (by kernel_rfl) (by kernel_rfl) (fun _ _ _ h => h) (Or.inl ⟨by rfl, ?_⟩) ?_
        rotate_left
        · intro w; go_simp; with_reducible rfl
        conv =>
          arg 7
          simp only [List.setIfInBounds_toArray, List.set_cons_succ, List.set_cons_zero]
        refine take_put (i := 26) (d := 4) (v := ?_) rfl rfl (by kernel_rfl) (by kernel_rfl) (by kernel_rfl) (fun _ _ _ h => h) (Or.inl ⟨by rfl, ?_⟩) ?_
        rotate_left
        · intro w; go_simp; with_reducible rfl
        conv =>
          arg 7
          simp only [List.setIfInBounds_toArray, List.set_cons_succ, List.set_cons_zero]
        refine wpAny_done (by kernel_rfl) ?_ _
        go_wp2
        go_ret
        exact ⟨rfl, b4.trans (bb1.mono b4.size)⟩
  | true =>
    obtain ⟨z, rfl⟩ : ∃ z : Nat, n = (z : Int) := ⟨n.toNat, by have := (readB_iff.1 hrd).1; omega⟩
    have hz := (readB_iff.1 hrd).1
    have hzl : b.length = (z + 7) / 8 := by have := (readB_iff.1 hrd).2.1; rwa [Int.toNat_natCast] at this
    have hbe : bytesL (bitsOf z b) = b := (bytesL_bitsOf hzl).2 (by have := (readB_iff.1 hrd).2.2; rwa [Int.toNat_natCast] at this)
    have hll := bitsOf_length z b
    have R := read_yes z _ k cx b w1 rx hrd
    obtain ⟨l, hl⟩ : ∃ l, l = bitsOf z b := ⟨_, rfl⟩
    have R2 := fun (W : World) (hW : Below w1.heap.size w1 W) => refRead_yes z A k c b W (hb1.below hW) hrd
    rw [← hl] at R hbe hll R2
    have HR2 := Lib.hid R2
    have Hbe := Lib.hid hbe
    have Hll := Lib.hid hll
    have hz4 : z ≤ 4096 := by omega
    clear hz hzl hbe hll hl R2 hrd
    go_wp2_with fail
    refine R.mono ?_
    rintro e w2 ⟨g, h, rfl, m2, hg, hh, b2⟩
    clear R
    go_wp2_with fail
    refine (HR2.out w2 b2).mono ?_
    rintro e w3 ⟨v3, rfl, o3, b3⟩
    obtain ⟨A3, c3, rfl, _, _, r3⟩ := o3.shape (n := z) (by rw [bls_length, Hll.out])
    have hA3 : ∀ a, A3 = some a → a.block ≠ gx := fun a ha => by
      subst ha
      have h1 := o3.lt a.block rfl
      have h2 := b2.size
      omega
    have b23 := b2.trans (b3.mono b2.size)
    have m3 := m2.below b3
    clear o3 m2
    go_wp2_with fail
    refine (kept_yes _ A k cx c b w3 (r6.below b23) HX.out HM.out (hb1.below b23)).mono ?_
    rintro e w4 ⟨rfl, rfl⟩
    have b13 := b1.trans (b23.mono b1.size)
    have ox3 := ox.below b23
    have hT3 := hT1.below b23
    have hb3 := hb1.below b23
    clear ox r6 rx
    have hsz3 := b23.size
    go_wp2_with fail
    go_loopw [10] (OverRel w.heap.size gx k (k + 6) cx w3) (fun v _ => k - (intOf v).toNat)
    case atStart => exact ⟨0, Nat.zero_le _, rfl, ⟨_, by rw [List.length_append, Hl.out, pad_length], ox3⟩, grown_refl _ _⟩
    case round =>
      clear ox3
      obtain ⟨j, hj, rfl, ⟨l2, hl2, o4⟩, g4⟩ := hrel
      by_cases hlt : j < k
      · obtain ⟨⟨u, hu⟩, hf, ho, hg⟩ := over_step (k := j) (by omega) hl2 o4 g4 255
        clear hl2 o4
        go_wp2
        exact ⟨⟨j + 1, by omega, by go_num, ho, hg⟩, by simp [intOf]; omega⟩
      · obtain rfl : j = k := by omega
        clear hl2 o4
        have b4 : Below w.heap.size w wr := below_grown b13 g4 (Nat.le_trans b1.size hsz3) hgx
        have hT4 : Tab wr := hT3.beside g4 (by omega)
        have m4 : MapAt wr g h l := m3.keep (g4.block g m3.lt.1 (by simp; omega)) (g4.block h m3.lt.2 (by simp; omega))
        have r4 : RdB wr A3 z l := RdV.grown r3 g4 hA3
        have hbr : Rd wr A j b := hb.below b4
        have HA : Hid (∀ W : World, Below wr.heap.size wr W → Calls Tryd.prog 11 #[] W (Holds W)) := Lib.hid fun W hW => awake_any W (hT4.below hW)
        have HL : Hid (∀ W : World, Below wr.heap.size wr W → Calls Tryd.prog 19 #[.pointer (some ⟨g, 0, none⟩)] W fun e w' => e = .returned (.int .i64 (z : Int)) ∧ W = w') := Lib.hid fun W hW => by
          have := len_any g h l W (m4.below hW)
          rwa [Hll.out] at this
        obtain ⟨C, hC⟩ : ∃ C, C = countL l := ⟨_, rfl⟩
        have HC : Hid (∀ W : World, Below wr.heap.size wr W → Calls Tryd.prog 20 #[.pointer (some ⟨g, 0, none⟩)] W fun e w' => e = .returned (.int .i64 (C : Int)) ∧ W = w') := Lib.hid fun W hW => by
          rw [hC]
          exact count_any g h l W (m4.below hW)
        have HR : Hid (∀ W : World, Below wr.heap.size wr W → Calls Tryd.prog 21 #[.slice A3 z c3] W fun e w' => e = .returned (.int .i64 (C : Int)) ∧ W = w') := Lib.hid fun W hW => by
          rw [hC]
          exact refCount_any A3 z c3 l W (r4.below hW) hz4
        have HB : Hid (∀ W : World, Below wr.heap.size wr W → Calls Tryd.prog 18 #[.pointer (some ⟨g, 0, none⟩)] W (SealLike j b W)) := Lib.hid fun W hW => by
          refine (bytes_any g h l W (m4.below hW)).mono ?_
          rintro e w5 ⟨v5, rfl, o5, b5⟩
          rw [Hbe.out] at o5
          obtain ⟨A5, c5, rfl, _, _, r5⟩ := o5.shapeN (n := j) Hl.out
          exact ⟨A5, c5, rfl, r5, b5⟩
        clear hC m4 r4 r3 m3 hT4
        go_wp2_with fail
        refine wp_region_any (by kernel_rfl) ?_
        change wpAny _ _ _ _ _ _ _ (World.drew _)
        refine wpAny_ready (rs := [0]) (by kernel_rfl) (by simp) ?_
        refine AllReady.cons rfl (fun K hK => ?_) (AllReady.nil)
        go_simp
        go_wp2_with (go_at_call 11; refine Calls.mono (HA.out _ (Below.refl _ _).drew) ?_; rintro e wq1 ⟨rfl, bq1⟩)
        have bb1 : Below wr.heap.size wr wq1 := (Below.refl _ wr).drew.trans bq1
        clear HA
        refine take_put (i := 1) (d := 54) (v := ?_) rfl rfl (by kernel_rfl) (by kernel_rfl) (by kernel_rfl) (fun _ _ _ h => h) (Or.inl ⟨by rfl, ?_⟩) ?_
        rotate_left
        · intro w; go_simp; with_reducible rfl
        conv =>
          arg 7
          simp only [List.setIfInBounds_toArray, List.set_cons_succ, List.set_cons_zero]
        refine take_put (i := 2) (d := 55) (v := ?_) rfl rfl (by kernel_rfl) (by kernel_rfl) (by kernel_rfl) (fun _ _ _ h => h) (Or.inl ⟨by rfl, ?_⟩) ?_
        rotate_left
        · intro w; go_simp; with_reducible rfl
        conv =>
          arg 7
          simp only [List.setIfInBounds_toArray, List.set_cons_succ, List.set_cons_zero]
        refine take_put (i := 3) (d := 56) (v := ?_) rfl rfl (by kernel_rfl) (by kernel_rfl) (by kernel_rfl) (fun _ _ _ h => h) (Or.inl ⟨by rfl, ?_⟩) ?_
        rotate_left
        · intro w; go_simp; with_reducible rfl
        conv =>
          arg 7
          simp only [List.setIfInBounds_toArray, List.set_cons_succ, List.set_cons_zero]
        refine take_put (i := 4) (d := 57) (v := ?_) rfl rfl (by kernel_rfl) (by kernel_rfl) (by kernel_rfl) (fun _ _ _ h => h) (Or.inl ⟨by rfl, ?_⟩) ?_
        rotate_left
        · intro w; go_simp; with_reducible rfl
        conv =>
          arg 7
          simp only [List.setIfInBounds_toArray, List.set_cons_succ, List.set_cons_zero]
        refine take_put (i := 5) (d := 58) (v := ?_) rfl rfl (by kernel_rfl) (by kernel_rfl) (by kernel_rfl) (fun _ _ _ h => h) (Or.inl ⟨by rfl, ?_⟩) ?_
        rotate_left
        · intro w; go_simp; with_reducible rfl
        conv =>
          arg 7
          simp only [List.setIfInBounds_toArray, List.set_cons_succ, List.set_cons_zero]
        refine take_put (i := 7) (d := 60) (v := ?_) rfl rfl (by kernel_rfl) (by kernel_rfl) (by kernel_rfl) (fun _ _ _ h => h) (Or.inl ⟨by rfl, ?_⟩) ?_
        rotate_left
        · intro w; go_simp; with_reducible rfl
        conv =>
          arg 7
          simp only [List.setIfInBounds_toArray, List.set_cons_succ, List.set_cons_zero]
        refine wpAny_ready (rs := [6]) (by kernel_rfl) (by simp) ?_
        refine AllReady.cons rfl (fun K hK => ?_) (AllReady.nil)
        go_simp
        go_wp2_with (go_at_call 19; refine Calls.mono (HL.out _ bb1) ?_; rintro e wq2 ⟨rfl, rfl⟩)
        refine take_put (i := 8) (d := 61) (v := ?_) rfl rfl (by kernel_rfl) (by kernel_rfl) (by kernel_rfl) (fun _ _ _ h => h) (Or.inl ⟨by rfl, ?_⟩) ?_
        rotate_left
        · intro w; go_simp; with_reducible rfl
        conv =>
          arg 7
          simp only [List.setIfInBounds_toArray, List.set_cons_succ, List.set_cons_zero]
        refine take_put (i := 9) (d := 62) (v := ?_) rfl rfl (by kernel_rfl) (by kernel_rfl) (by kernel_rfl) (fun _ _ _ h => h) (Or.inl ⟨by rfl, ?_⟩) ?_
        rotate_left
        · intro w; go_simp; with_reducible rfl
        conv =>
          arg 7
          simp only [List.setIfInBounds_toArray, List.set_cons_succ, List.set_cons_zero]
        refine take_put (i := 10) (d := 63) (v := ?_) rfl rfl (by kernel_rfl) (by kernel_rfl) (by kernel_rfl) (fun _ _ _ h => h) (Or.inl ⟨by rfl, ?_⟩) ?_
        rotate_left
        · intro w; go_simp; with_reducible rfl
        conv =>
          arg 7
          simp only [List.setIfInBounds_toArray, List.set_cons_succ, List.set_cons_zero]
        refine take_put (i := 12) (d := 65) (v := ?_) rfl rfl (by kernel_rfl) (by kernel_rfl) (by kernel_rfl) (fun _ _ _ h => h) (Or.inl ⟨by rfl, ?_⟩) ?_
        rotate_left
        · intro w; go_simp; with_reducible rfl
        conv =>
          arg 7
          simp only [List.setIfInBounds_toArray, List.set_cons_succ, List.set_cons_zero]
        refine wpAny_ready (rs := [11]) (by kernel_rfl) (by simp) ?_
        refine AllReady.cons rfl (fun K hK => ?_) (AllReady.nil)
        go_simp
        go_wp2_with (go_at_call 20; refine Calls.mono (HC.out _ bb1) ?_; rintro e wq3 ⟨rfl, rfl⟩)
        refine wpAny_ready (rs := [13]) (by kernel_rfl) (by simp) ?_
        refine AllReady.cons rfl (fun K hK => ?_) (AllReady.nil)
        go_simp
        go_wp2_with (go_at_call 21; refine Calls.mono (HR.out _ bb1) ?_; rintro e wq4 ⟨rfl, rfl⟩)
        refine take_put (i := 14) (d := 67) (v := ?_) rfl rfl (by kernel_rfl) (by kernel_rfl) (by kernel_rfl) (fun _ _ _ h => h) (Or.inl ⟨by rfl, ?_⟩) ?_
        rotate_left
        · intro w; go_simp; with_reducible rfl
        conv =>
          arg 7
          simp only [List.setIfInBounds_toArray, List.set_cons_succ, List.set_cons_zero]
        refine take_put (i := 15) (d := 68) (v := ?_) rfl rfl (by kernel_rfl) (by kernel_rfl) (by kernel_rfl) (fun _ _ _ h => h) (Or.inl ⟨by rfl, ?_⟩) ?_
        rotate_left
        · intro w; go_simp; with_reducible rfl
        conv =>
          arg 7
          simp only [List.setIfInBounds_toArray, List.set_cons_succ, List.set_cons_zero]
        refine take_put (i := 16) (d := 69) (v := ?_) rfl rfl (by kernel_rfl) (by kernel_rfl) (by kernel_rfl) (fun _ _ _ h => h) (Or.inl ⟨by rfl, ?_⟩) ?_
        rotate_left
        · intro w; go_simp; with_reducible rfl
        conv =>
          arg 7
          simp only [List.setIfInBounds_toArray, List.set_cons_succ, List.set_cons_zero]
        refine take_put (i := 17) (d := 70) (v := ?_) rfl rfl (by kernel_rfl) (by kernel_rfl) (by kernel_rfl) (fun _ _ _ h => h) (Or.inl ⟨by rfl, ?_⟩) ?_
        rotate_left
        · intro w; go_simp; with_reducible rfl
        conv =>
          arg 7
          simp only [List.setIfInBounds_toArray, List.set_cons_succ, List.set_cons_zero]
        refine take_put (i := 20) (d := 73) (v := ?_) rfl rfl (by kernel_rfl) (by kernel_rfl) (by kernel_rfl) (fun _ _ _ h => h) (Or.inl ⟨by rfl, ?_⟩) ?_
        rotate_left
        · intro w; go_simp; with_reducible rfl
        conv =>
          arg 7
          simp only [List.setIfInBounds_toArray, List.set_cons_succ, List.set_cons_zero]
        refine wpAny_ready (rs := [18, 21]) (by kernel_rfl) (by simp) ?_
        refine AllReady.cons rfl (fun K hK => ?_) (AllReady.cons rfl (fun K hK => ?_) (AllReady.nil))
        · skip
          go_simp
          go_wp2_with (go_at_call 18; refine Calls.mono (HB.out _ bb1) ?_; rintro e wq5 ⟨A5, c5, rfl, r5, bq5⟩)
          have bb5 : Below wr.heap.size wr wq5 := bb1.trans (bq5.mono bb1.size)
          refine wpAny_ready (rs := [19, 21]) (by kernel_rfl) (by simp) ?_
          refine AllReady.cons rfl (fun K hK => ?_) (AllReady.cons rfl (fun K hK => ?_) (AllReady.nil))
          · skip
            have k6 := r5.conv (P := Tryd.prog) c5 39 5 9 Tryd.underlying39 Tryd.underlying5 Tryd.underlying9
            go_simp
            refine hK _ _ ?_
            clear hK K
            clear k6
            refine wpAny_ready (rs := [21]) (by kernel_rfl) (by simp) ?_
            refine AllReady.cons rfl (fun K hK => ?_) (AllReady.nil)
            have k7 := (hbr.below bb5).conv (P := Tryd.prog) c 39 5 9 Tryd.underlying39 Tryd.underlying5 Tryd.underlying9
            go_simp
            refine hK _ _ ?_
            clear hK K
            clear k7
            refine take_put (i := 22) (d := 75) (v := ?_) rfl rfl (by kernel_rfl) (by kernel_rfl) (by kernel_rfl) (fun _ _ _ h => h) (Or.inl ⟨by rfl, ?_⟩) ?_
            rotate_left
            · intro w; go_simp; with_reducible rfl
            conv =>
              arg 7
              simp only [List.setIfInBounds_toArray, List.set_cons_succ, List.set_cons_zero]
            refine take_put (i := 23) (d := 76) (v := ?_) rfl rfl (by kernel_rfl) (by kernel_rfl) (by kernel_rfl) (fun _ _ _ h => h) (Or.inl ⟨by rfl, ?_⟩) ?_
            rotate_left
            · intro w; go_simp; with_reducible rfl
            conv =>
              arg 7
              simp only [List.setIfInBounds_toArray, List.set_cons_succ, List.set_cons_zero]
            refine take_put (i := 24) (d := 77) (v := ?_) rfl rfl (by kernel_rfl) (by kernel_rfl) (by kernel_rfl) (fun _ _ _ h => h) (Or.inl ⟨by rfl, ?_⟩) ?_
            rotate_left
            · intro w; go_simp; with_reducible rfl
            conv =>
              arg 7
              simp only [List.setIfInBounds_toArray, List.set_cons_succ, List.set_cons_zero]
            refine take_put (i := 25) (d := 78) (v := ?_) rfl rfl (by kernel_rfl) (by kernel_rfl) (by kernel_rfl) (fun _ _ _ h => h) (Or.inl ⟨by rfl, ?_⟩) ?_
            rotate_left
            · intro w; go_simp; with_reducible rfl
            conv =>
              arg 7
              simp only [List.setIfInBounds_toArray, List.set_cons_succ, List.set_cons_zero]
            refine take_put (i := 26) (d := 4) (v := ?_) rfl rfl (by kernel_rfl) (by kernel_rfl) (by kernel_rfl) (fun _ _ _ h => h) (Or.inl ⟨by rfl, ?_⟩) ?_
            rotate_left
            · intro w; go_simp; with_reducible rfl
            conv =>
              arg 7
              simp only [List.setIfInBounds_toArray, List.set_cons_succ, List.set_cons_zero]
            refine wpAny_done (by kernel_rfl) ?_ _
            go_wp2
            go_ret
            exact ⟨rfl, b4.trans (bb5.mono b4.size)⟩
          · skip
            have k8 := (hbr.below bb5).conv (P := Tryd.prog) c 39 5 9 Tryd.underlying39 Tryd.underlying5 Tryd.underlying9
            go_simp
            refine hK _ _ ?_
            clear hK K
            clear k8
            refine wpAny_ready (rs := [19]) (by kernel_rfl) (by simp) ?_
            refine AllReady.cons rfl (fun K hK => ?_) (AllReady.nil)
            have k9 := r5.conv (P := Tryd.prog) c5 39 5 9 Tryd.underlying39 Tryd.underlying5 Tryd.underlying9
            go_simp
            refine hK _ _ ?_
            clear hK K
            clear k9
            refine take_put (i := 22) (d := 75) (v := ?_) rfl rfl (by kernel_rfl) (by kernel_rfl) (by kernel_rfl) (fun _ _ _ h => h) (Or.inl ⟨by rfl, ?_⟩) ?_
            rotate_left
            · intro w; go_simp; with_reducible rfl
            conv =>
              arg 7
              simp only [List.setIfInBounds_toArray, List.set_cons_succ, List.set_cons_zero]
            refine take_put (i := 23) (d := 76) (v := ?_) rfl rfl (by kernel_rfl) (by kernel_rfl) (by kernel_rfl) (fun _ _ _ h => h) (Or.inl ⟨by rfl, ?_⟩) ?_
            rotate_left
            · intro w; go_simp; with_reducible rfl
            conv =>
              arg 7
              simp only [List.setIfInBounds_toArray, List.set_cons_succ, List.set_cons_zero]
            refine take_put (i := 24) (d := 77) (v := ?_) rfl rfl (by kernel_rfl) (by kernel_rfl) (by kernel_rfl) (fun _ _ _ h => h) (Or.inl ⟨by rfl, ?_⟩) ?_
            rotate_left
            · intro w; go_simp; with_reducible rfl
            conv =>
              arg 7
              simp only [List.setIfInBounds_toArray, List.set_cons_succ, List.set_cons_zero]
            refine take_put (i := 25) (d := 78) (v := ?_) rfl rfl (by kernel_rfl) (by kernel_rfl) (by kernel_rfl) (fun _ _ _ h => h) (Or.inl ⟨by rfl, ?_⟩) ?_
            rotate_left
            · intro w; go_simp; with_reducible rfl
            conv =>
              arg 7
              simp only [List.setIfInBounds_toArray, List.set_cons_succ, List.set_cons_zero]
            refine take_put (i := 26) (d := 4) (v := ?_) rfl rfl (by kernel_rfl) (by kernel_rfl) (by kernel_rfl) (fun _ _ _ h => h) (Or.inl ⟨by rfl, ?_⟩) ?_
            rotate_left
            · intro w; go_simp; with_reducible rfl
            conv =>
              arg 7
              simp only [List.setIfInBounds_toArray, List.set_cons_succ, List.set_cons_zero]
            refine wpAny_done (by kernel_rfl) ?_ _
            go_wp2
            go_ret
            exact ⟨rfl, b4.trans (bb5.mono b4.size)⟩
        · skip
          have k10 := (hbr.below bb1).conv (P := Tryd.prog) c 39 5 9 Tryd.underlying39 Tryd.underlying5 Tryd.underlying9
          go_simp
          refine hK _ _ ?_
          clear hK K
          clear k10
          refine wpAny_ready (rs := [18]) (by kernel_rfl) (by simp) ?_
          refine AllReady.cons rfl (fun K hK => ?_) (AllReady.nil)
          go_simp
          go_wp2_with (go_at_call 18; refine Calls.mono (HB.out _ bb1) ?_; rintro e wq11 ⟨A11, c11, rfl, r11, bq11⟩)
          have bb11 : Below wr.heap.size wr wq11 := bb1.trans (bq11.mono bb1.size)
          refine wpAny_ready (rs := [19]) (by kernel_rfl) (by simp) ?_
          refine AllReady.cons rfl (fun K hK => ?_) (AllReady.nil)
          have k12 := r11.conv (P := Tryd.prog) c11 39 5 9 Tryd.underlying39 Tryd.underlying5 Tryd.underlying9
          go_simp
          refine hK _ _ ?_
          clear hK K
          clear k12
          refine take_put (i := 22) (d := 75) (v := ?_) rfl rfl (by kernel_rfl) (by kernel_rfl) (by kernel_rfl) (fun _ _ _ h => h) (Or.inl ⟨by rfl, ?_⟩) ?_
          rotate_left
          · intro w; go_simp; with_reducible rfl
          conv =>
            arg 7
            simp only [List.setIfInBounds_toArray, List.set_cons_succ, List.set_cons_zero]
          refine take_put (i := 23) (d := 76) (v := ?_) rfl rfl (by kernel_rfl) (by kernel_rfl) (by kernel_rfl) (fun _ _ _ h => h) (Or.inl ⟨by rfl, ?_⟩) ?_
          rotate_left
          · intro w; go_simp; with_reducible rfl
          conv =>
            arg 7
            simp only [List.setIfInBounds_toArray, List.set_cons_succ, List.set_cons_zero]
          refine take_put (i := 24) (d := 77) (v := ?_) rfl rfl (by kernel_rfl) (by kernel_rfl) (by kernel_rfl) (fun _ _ _ h => h) (Or.inl ⟨by rfl, ?_⟩) ?_
          rotate_left
          · intro w; go_simp; with_reducible rfl
          conv =>
            arg 7
            simp only [List.setIfInBounds_toArray, List.set_cons_succ, List.set_cons_zero]
          refine take_put (i := 25) (d := 78) (v := ?_) rfl rfl (by kernel_rfl) (by kernel_rfl) (by kernel_rfl) (fun _ _ _ h => h) (Or.inl ⟨by rfl, ?_⟩) ?_
          rotate_left
          · intro w; go_simp; with_reducible rfl
          conv =>
            arg 7
            simp only [List.setIfInBounds_toArray, List.set_cons_succ, List.set_cons_zero]
          refine take_put (i := 26) (d := 4) (v := ?_) rfl rfl (by kernel_rfl) (by kernel_rfl) (by kernel_rfl) (fun _ _ _ h => h) (Or.inl ⟨by rfl, ?_⟩) ?_
          rotate_left
          · intro w; go_simp; with_reducible rfl
          conv =>
            arg 7
            simp only [List.setIfInBounds_toArray, List.set_cons_succ, List.set_cons_zero]
          refine wpAny_done (by kernel_rfl) ?_ _
          go_wp2
          go_ret
          exact ⟨rfl, b4.trans (bb11.mono b4.size)⟩
end Go.Proofs.YtjfcgjmiianmkaaDoor
