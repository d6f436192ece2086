/-
  The walk of the law SumLinear: it says true, whatever came in, and nothing that was there is written over.
-/
import Derived.Test.YtpainpekapnbhaaSumLawC
import Derived.Test.YtpainpekapnbhaaRegion
namespace Go.Proofs.Ytpainpekapnbhaa
open Go.RowKit

theorem own_zero {U : TypeId} (w : World) (m : Nat) (hm : m ≤ maxLen) : Own U (w.alloc (.cells (zcells m).toArray U)) w.heap.size (.slice (some ⟨w.heap.size, 0, none⟩) m m) (List.replicate m 0) := by
  have h := Own.of_row (U := U) (w := w.alloc (.cells (zcells m).toArray U)) (base := w.heap.size) (l := List.replicate m 0) (heap_alloc_new w _) (Nat.le_refl _) (by simp) hm (zcells_length m) (by simp [zcells, bvs, bv])
  rw [List.length_replicate] at h
  exact h
theorem lin_step {zs : List UInt8} {m k : Nat} {z : UInt8} (hl : zs.length = m) (hk : k < m) (hz : zs[k]? = some z) :
    (zs.take k ++ List.replicate (m - k) 0).set k z = zs.take (k + 1) ++ List.replicate (m - (k + 1)) 0 := by
  have h1 : (zs.take k).length = k := by rw [List.length_take]; omega
  rw [List.set_append, if_neg (by omega), h1, Nat.sub_self, show m - k = (m - (k + 1)) + 1 from by omega, List.replicate_succ, List.set_cons_zero, List.take_add_one, hz, List.append_assoc]
  rfl
theorem zip_get {a b : List UInt8} {k : Nat} {x y : UInt8} (hx : a[k]? = some x) (hy : b[k]? = some y) : (List.zipWith (· ^^^ ·) a b)[k]? = some (x ^^^ y) := by
  rw [List.getElem?_zipWith, hx, hy]
theorem zero_rd {U : TypeId} (w : World) (m : Nat) (hm : m ≤ maxLen) : Rd (w.alloc (.cells (zcells m).toArray U)) (some ⟨w.heap.size, 0, none⟩) m (List.replicate m 0) := by
  obtain ⟨A, c, hv, _, _, r⟩ := (own_zero (U := U) w m hm).shapeN (n := m) (by simp)
  injection hv with e1 e2 e3
  rw [← e1] at r
  exact r
theorem xor64_num (a b : BitVec 32) : bits .xor .i64 (a.toNat : Int) (b.toNat : Int) = ((a ^^^ b).toNat : Int) := by
  have h1 := a.isLt
  have h2 := b.isLt
  have h3 := (a ^^^ b).isLt
  have e : ∀ v : BitVec 32, BitVec.ofInt 64 (v.toNat : Int) = BitVec.ofNat 64 v.toNat := fun v => by
    apply BitVec.eq_of_toNat_eq
    simp
  show IntKind.i64.wrap ((BitVec.ofInt 64 (a.toNat : Int) ^^^ BitVec.ofInt 64 (b.toNat : Int)).toNat : Int) = _
  rw [e, e, BitVec.toNat_xor, BitVec.toNat_ofNat, BitVec.toNat_ofNat, Nat.mod_eq_of_lt (by omega), Nat.mod_eq_of_lt (by omega), ← BitVec.toNat_xor, IntKind.wrap_i64]
  omega
theorem zip_zero (l : List UInt8) (k : Nat) (h : l.length = k) : List.zipWith (· ^^^ ·) l (List.replicate k 0) = l := by
  subst h
  induction l with
  | nil => rfl
  | cons x l ih => simp only [List.length_cons, List.replicate_succ, List.zipWith_cons_cons, UInt8.xor_zero, ih]
theorem lin_sum {a b zs : List UInt8} {k : Nat} (h : a.length = b.length) (hz : zs = List.zipWith (· ^^^ ·) a b) (hk : zs.length = k) :
    (sumOf a ^^^ sumOf b) ^^^ sumOf zs ^^^ sumOf (List.replicate k 0) = 0#32 := by
  have e : ∀ l m : List UInt8, l.length = m.length → sumOf l ^^^ sumOf m = wrd 0#32 (List.zipWith (· ^^^ ·) l m) := fun l m hl => by
    unfold sumOf crc
    rw [← BitVec.allOnes_xor, ← BitVec.allOnes_xor (x := wrd _ m)]
    have := wrd_lin l m hl (~~~0#32) (~~~0#32)
    rw [BitVec.xor_self] at this
    rw [this]
    generalize wrd (~~~0#32) l = p
    generalize wrd (~~~0#32) m = q
    rw [BitVec.xor_comm _ p, BitVec.xor_assoc, ← BitVec.xor_assoc (BitVec.allOnes 32) (BitVec.allOnes 32) q, BitVec.xor_self, BitVec.zero_xor]
  rw [BitVec.xor_assoc, e a b h, e zs _ (by simp [hk]), zip_zero zs k hk, ← hz, BitVec.xor_self]
def LinRel (zs : List UInt8) (m : Nat) (w : World) (i : Value) (wr : World) : Prop :=
  ∃ k : Nat, k ≤ m ∧ i = .int .i64 k ∧ Own 5 wr w.heap.size (.slice (some ⟨w.heap.size, 0, none⟩) m m) (zs.take k ++ List.replicate (m - k) 0) ∧ Below w.heap.size w wr

set_option maxRecDepth 100000 in
set_option maxHeartbeats 4000000 in
theorem sumLinear_walk (A A2 : Option Addr) (n c n2 c2 : Nat) (a b : List UInt8) (w : World) (ha : Rd w A n a) (hb : Rd w A2 n2 b) (hc : n ≤ c) (hcm : c ≤ maxLen) (hc2 : n2 ≤ c2) (_hcm2 : c2 ≤ maxLen) :
    Calls Try.prog 8 #[.slice A n c, .slice A2 n2 c2] w (Holds w) := by
  obtain ⟨m, hm, h1, h2⟩ : ∃ m : Nat, (if n2 < n then (n2 : Int) else (n : Int)) = (m : Int) ∧ m ≤ n ∧ m ≤ n2 := by
    by_cases h : n2 < n
    · exact ⟨n2, by rw [if_pos h], by omega, Nat.le_refl _⟩
    · exact ⟨n, by rw [if_neg h], Nat.le_refl _, by omega⟩
  have ra := ha.take h1
  have rb := hb.take h2
  obtain ⟨a1, ha1⟩ : ∃ a1, a1 = a.take m := ⟨_, rfl⟩
  obtain ⟨b1, hb1⟩ : ∃ b1, b1 = b.take m := ⟨_, rfl⟩
  rw [← ha1] at ra
  rw [← hb1] at rb
  clear ha hb ha1 hb1
  unfold maxLen at hcm _hcm2
  go_enter Try.func8, Try.ntmps8
  go_upto_if 14 with (fail)
  clear hm
  by_cases hbig : 65536 < m
  · go_wp2
    go_ret
    exact ⟨rfl, Below.refl _ _⟩
  · have hmk := run_make_bytes (P := Try.prog) Try.underlying22 Try.infoU8 m m (Nat.le_refl _) (by omega)
    obtain ⟨zs, hzs⟩ : ∃ zs, zs = List.zipWith (· ^^^ ·) a1 b1 := ⟨_, rfl⟩
    have Hzl : Hid (zs.length = m) := Lib.hid (by rw [hzs, List.length_zipWith, ra.len, rb.len, Nat.min_self])
    have Hzs := Lib.hid hzs
    clear hzs
    have o0 := own_zero (U := 5) w m (by simp only [maxLen]; omega)
    have bl0 : Below w.heap.size w (w.alloc (.cells (zcells m).toArray 5)) := (Below.refl _ _).alloc (Nat.le_refl _) _
    go_wp2_with fail
    go_loopw [7] (LinRel zs m w) (fun i _ => m - (intOf i).toNat)
    case atStart => exact ⟨0, Nat.zero_le _, rfl, o0, bl0⟩
    case round =>
      clear o0 bl0
      obtain ⟨k, hk, rfl, o1, bl1⟩ := hrel
      by_cases hlt : k < m
      · have ra1 := ra.below bl1
        have rb1 := rb.below bl1
        obtain ⟨g1, f1, x, rfl, _, hx, hcx⟩ := ra1.cell hlt
        obtain ⟨g2, f2, y, rfl, _, hy, hcy⟩ := rb1.cell hlt
        have Hol : Hid ((zs.take k ++ List.replicate (m - k) 0).length = m) := Lib.hid (by rw [List.length_append, List.length_take, List.length_replicate, Hzl.out]; omega)
        obtain ⟨u, _, hcu⟩ := o1.cell Hol.out hlt
        have hfu := o1.free Hol.out k
        obtain ⟨z, hz⟩ : ∃ z, z = x ^^^ y := ⟨_, rfl⟩
        have hxy : bits .xor .u8 (x.toNat : Int) (y.toNat : Int) = (z.toNat : Int) := by rw [hz]; exact xor8_num x y
        have o2 := o1.set Hol.out k z
        have hzk : zs[k]? = some z := by rw [Hzs.out, hz]; exact zip_get hx hy
        rw [lin_step Hzl.out hlt hzk] at o2
        change Own 5 (wr.setCell ⟨w.heap.size, k, none⟩ (.int .u8 (z.toNat : Int))) _ _ _ at o2
        have bl2 : Below w.heap.size w (wr.setCell ⟨w.heap.size, k, none⟩ (.int .u8 (z.toNat : Int))) := bl1.setCell (p := ⟨w.heap.size, k, none⟩) (Nat.le_refl _) _
        have hki : (k : Int) < (m : Int) := by omega
        have hkn : (k : Int) < (n : Int) := by omega
        have hkn2 : (k : Int) < (n2 : Int) := by omega
        clear hx hy hz hzk o1 ra1 rb1
        go_wp2_with fail
        go_region
        all_goals go_wp2
        refine ⟨⟨k + 1, by omega, by go_num, o2.drew, bl2.drew⟩, by simp [intOf]; omega⟩
      · obtain rfl : k = m := by omega
        have ra1 := ra.below bl1
        have rb1 := rb.below bl1
        have hx0 : zs.take k ++ List.replicate (k - k) 0 = zs := by rw [Nat.sub_self, List.replicate_zero, List.append_nil, List.take_of_length_le (by rw [Hzl.out]; omega)]
        rw [hx0] at o1
        obtain ⟨A5, c5, hv5, _, _, r5⟩ := o1.shapeN Hzl.out
        injection hv5 with e1 e2 e3
        subst e1
        subst e3
        have hmax : k ≤ maxLen := by simp only [maxLen]; omega
        obtain ⟨s1, hs1⟩ : ∃ s, s = sumOf a1 := ⟨_, rfl⟩
        obtain ⟨s2, hs2⟩ : ∃ s, s = sumOf b1 := ⟨_, rfl⟩
        obtain ⟨s3, hs3⟩ : ∃ s, s = sumOf zs := ⟨_, rfl⟩
        obtain ⟨s4, hs4⟩ : ∃ s, s = sumOf (List.replicate k 0) := ⟨_, rfl⟩
        have HS1 : Hid (∀ W : World, Below wr.heap.size wr W → Calls Try.prog 14 #[.slice A k c] W (GivesI W s1)) := Lib.hid fun W hW => by rw [hs1]; exact sum_any A k c a1 W (ra1.below hW) hmax
        have HS2 : Hid (∀ W : World, Below wr.heap.size wr W → Calls Try.prog 14 #[.slice A2 k c2] W (GivesI W s2)) := Lib.hid fun W hW => by rw [hs2]; exact sum_any A2 k c2 b1 W (rb1.below hW) hmax
        have HS3 : Hid (∀ W : World, Below wr.heap.size wr W → Calls Try.prog 14 #[.slice (some ⟨w.heap.size, 0, none⟩) k k] W (GivesI W s3)) := Lib.hid fun W hW => by rw [hs3]; exact sum_any _ k k zs W (r5.below hW) hmax
        have HS4 : Hid (∀ (W : World) (A : Option Addr), Rd W A k (List.replicate k 0) → Calls Try.prog 14 #[.slice A k k] W (GivesI W s4)) := Lib.hid fun W A hr => by rw [hs4]; exact sum_any A k k _ W hr hmax
        obtain ⟨q1, hq1⟩ : ∃ q, q = s1 ^^^ s2 := ⟨_, rfl⟩
        obtain ⟨q2, hq2⟩ : ∃ q, q = q1 ^^^ s3 := ⟨_, rfl⟩
        have hz0 : q2 ^^^ s4 = 0#32 := by
          rw [hq2, hq1, hs1, hs2, hs3, hs4]
          exact lin_sum (ra.len.trans rb.len.symm) Hzs.out (by rw [Hzl.out])
        have hx1 : bits .xor .i64 (s1.toNat : Int) (s2.toNat : Int) = (q1.toNat : Int) := by rw [hq1]; exact xor64_num s1 s2
        have hx2 : bits .xor .i64 (q1.toNat : Int) (s3.toNat : Int) = (q2.toNat : Int) := by rw [hq2]; exact xor64_num q1 s3
        have hx3 : bits .xor .i64 (q2.toNat : Int) (s4.toNat : Int) = 0 := by rw [xor64_num q2 s4, hz0]; rfl
        have hkc : k ≤ c := Nat.le_trans h1 hc
        have hkc2 : k ≤ c2 := Nat.le_trans h2 hc2
        clear hs1 hs2 hs3 hs4 hq1 hq2 hz0 o1 r5 ra1 rb1 ra rb
        go_wp2_with fail
        refine wp_region_any (by kernel_rfl) ?_
        change wpAny _ _ _ _ _ _ _ (World.drew _)
        refine wpAny_ready (rs := [0]) (by kernel_rfl) (by simp) ?_
        refine AllReady.cons rfl (fun K hK => ?_) (AllReady.nil)
        go_simp
        go_wp2_with (go_at_call 13; refine (sums_any _).mono ?_; rintro e wp ⟨rfl, bp⟩)
        have bbp : Below wr.heap.size wr wp := (Below.refl _ wr).drew.trans bp
        clear bp
        refine take_put (i := 1) (d := 35) (v := ?_) rfl rfl (by kernel_rfl) (by kernel_rfl) (by kernel_rfl) (fun _ _ _ h => h) (Or.inl ⟨by rfl, ?_⟩) ?_
        rotate_left
        · intro w; go_simp; with_reducible rfl
        conv =>
          arg 7
          simp only [List.setIfInBounds_toArray, List.set_cons_succ, List.set_cons_zero]
        refine take_put (i := 2) (d := 36) (v := ?_) rfl rfl (by kernel_rfl) (by kernel_rfl) (by kernel_rfl) (fun _ _ _ h => h) (Or.inl ⟨by rfl, ?_⟩) ?_
        rotate_left
        · intro w; go_simp; with_reducible rfl
        conv =>
          arg 7
          simp only [List.setIfInBounds_toArray, List.set_cons_succ, List.set_cons_zero]
        refine take_put (i := 3) (d := 37) (v := ?_) rfl rfl (by kernel_rfl) (by kernel_rfl) (by kernel_rfl) (fun _ _ _ h => h) (Or.inl ⟨by rfl, ?_⟩) ?_
        rotate_left
        · intro w; go_simp; with_reducible rfl
        conv =>
          arg 7
          simp only [List.setIfInBounds_toArray, List.set_cons_succ, List.set_cons_zero]
        refine take_put (i := 4) (d := 38) (v := ?_) rfl rfl (by kernel_rfl) (by kernel_rfl) (by kernel_rfl) (fun _ _ _ h => h) (Or.inl ⟨by rfl, ?_⟩) ?_
        rotate_left
        · intro w; go_simp; with_reducible rfl
        conv =>
          arg 7
          simp only [List.setIfInBounds_toArray, List.set_cons_succ, List.set_cons_zero]
        refine take_put (i := 6) (d := 40) (v := ?_) rfl rfl (by kernel_rfl) (by kernel_rfl) (by kernel_rfl) (fun _ _ _ h => h) (Or.inl ⟨by rfl, ?_⟩) ?_
        rotate_left
        · intro w; go_simp; with_reducible rfl
        conv =>
          arg 7
          simp only [List.setIfInBounds_toArray, List.set_cons_succ, List.set_cons_zero]
        refine take_put (i := 7) (d := 41) (v := ?_) rfl rfl (by kernel_rfl) (by kernel_rfl) (by kernel_rfl) (fun _ _ _ h => h) (Or.inl ⟨by rfl, ?_⟩) ?_
        rotate_left
        · intro w; go_simp; with_reducible rfl
        conv =>
          arg 7
          simp only [List.setIfInBounds_toArray, List.set_cons_succ, List.set_cons_zero]
        refine take_put (i := 8) (d := 42) (v := ?_) rfl rfl (by kernel_rfl) (by kernel_rfl) (by kernel_rfl) (fun _ _ _ h => h) (Or.inl ⟨by rfl, ?_⟩) ?_
        rotate_left
        · intro w; go_simp; with_reducible rfl
        conv =>
          arg 7
          simp only [List.setIfInBounds_toArray, List.set_cons_succ, List.set_cons_zero]
        refine take_put (i := 11) (d := 45) (v := ?_) rfl rfl (by kernel_rfl) (by kernel_rfl) (by kernel_rfl) (fun _ _ _ h => h) (Or.inl ⟨by rfl, ?_⟩) ?_
        rotate_left
        · intro w; go_simp; with_reducible rfl
        conv =>
          arg 7
          simp only [List.setIfInBounds_toArray, List.set_cons_succ, List.set_cons_zero]
        refine take_put (i := 14) (d := 48) (v := ?_) rfl rfl (by kernel_rfl) (by kernel_rfl) (by kernel_rfl) (fun _ _ _ h => h) (Or.inl ⟨by rfl, ?_⟩) ?_
        rotate_left
        · intro w; go_simp; with_reducible rfl
        conv =>
          arg 7
          simp only [List.setIfInBounds_toArray, List.set_cons_succ, List.set_cons_zero]
        refine wpAny_ready (rs := [5, 15]) (by kernel_rfl) (by simp) ?_
        refine AllReady.cons rfl (fun K hK => ?_) (AllReady.cons rfl (fun K hK => ?_) (AllReady.nil))
        · skip
          go_simp
          go_wp2_with (go_at_call 14; refine Calls.mono (HS1.out _ bbp) ?_; rintro e wq1 ⟨rfl, bq1⟩)
          have bb1 := bbp.trans (bq1.mono bbp.size)
          refine wpAny_ready (rs := [9, 15]) (by kernel_rfl) (by simp) ?_
          refine AllReady.cons rfl (fun K hK => ?_) (AllReady.cons rfl (fun K hK => ?_) (AllReady.nil))
          · skip
            go_simp
            go_wp2_with (go_at_call 14; refine Calls.mono (HS2.out _ bb1) ?_; rintro e wq2 ⟨rfl, bq2⟩)
            have bb2 := bb1.trans (bq2.mono bb1.size)
            refine take_put (i := 10) (d := 44) (v := ?_) rfl rfl (by kernel_rfl) (by kernel_rfl) (by kernel_rfl) (fun _ _ _ h => h) (Or.inl ⟨by rfl, ?_⟩) ?_
            rotate_left
            · intro w; go_simp; with_reducible rfl
            conv =>
              arg 7
              simp only [List.setIfInBounds_toArray, List.set_cons_succ, List.set_cons_zero]
            refine wpAny_ready (rs := [12, 15]) (by kernel_rfl) (by simp) ?_
            refine AllReady.cons rfl (fun K hK => ?_) (AllReady.cons rfl (fun K hK => ?_) (AllReady.nil))
            · skip
              go_simp
              go_wp2_with (go_at_call 14; refine Calls.mono (HS3.out _ bb2) ?_; rintro e wq3 ⟨rfl, bq3⟩)
              have bb3 := bb2.trans (bq3.mono bb2.size)
              refine take_put (i := 13) (d := 47) (v := ?_) rfl rfl (by kernel_rfl) (by kernel_rfl) (by kernel_rfl) (fun _ _ _ h => h) (Or.inl ⟨by rfl, ?_⟩) ?_
              rotate_left
              · intro w; go_simp; with_reducible rfl
              conv =>
                arg 7
                simp only [List.setIfInBounds_toArray, List.set_cons_succ, List.set_cons_zero]
              refine wpAny_ready (rs := [15]) (by kernel_rfl) (by simp) ?_
              refine AllReady.cons rfl (fun K hK => ?_) (AllReady.nil)
              go_simp
              refine hK _ _ ?_
              clear hK K
              have bb4 := bb3.trans ((Below.refl wr.heap.size wq3).alloc bb3.size (.cells (zcells k).toArray 5))
              have rm4 := zero_rd (U := 5) wq3 k hmax
              refine wpAny_ready (rs := [16]) (by kernel_rfl) (by simp) ?_
              refine AllReady.cons rfl (fun K hK => ?_) (AllReady.nil)
              go_simp
              go_wp2_with (go_at_call 14; refine Calls.mono (HS4.out _ _ rm4) ?_; rintro e wq5 ⟨rfl, bq5⟩)
              have bb5 := bb4.trans (bq5.mono bb4.size)
              refine take_put (i := 17) (d := 51) (v := ?_) rfl rfl (by kernel_rfl) (by kernel_rfl) (by kernel_rfl) (fun _ _ _ h => h) (Or.inl ⟨by rfl, ?_⟩) ?_
              rotate_left
              · intro w; go_simp; with_reducible rfl
              conv =>
                arg 7
                simp only [List.setIfInBounds_toArray, List.set_cons_succ, List.set_cons_zero]
              refine take_put (i := 18) (d := 52) (v := ?_) rfl rfl (by kernel_rfl) (by kernel_rfl) (by kernel_rfl) (fun _ _ _ h => h) (Or.inl ⟨by rfl, ?_⟩) ?_
              rotate_left
              · intro w; go_simp; with_reducible rfl
              conv =>
                arg 7
                simp only [List.setIfInBounds_toArray, List.set_cons_succ, List.set_cons_zero]
              refine take_put (i := 19) (d := 53) (v := ?_) rfl rfl (by kernel_rfl) (by kernel_rfl) (by kernel_rfl) (fun _ _ _ h => h) (Or.inl ⟨by rfl, ?_⟩) ?_
              rotate_left
              · intro w; go_simp; with_reducible rfl
              conv =>
                arg 7
                simp only [List.setIfInBounds_toArray, List.set_cons_succ, List.set_cons_zero]
              refine take_put (i := 20) (d := 4) (v := ?_) rfl rfl (by kernel_rfl) (by kernel_rfl) (by kernel_rfl) (fun _ _ _ h => h) (Or.inl ⟨by rfl, ?_⟩) ?_
              rotate_left
              · intro w; go_simp; with_reducible rfl
              conv =>
                arg 7
                simp only [List.setIfInBounds_toArray, List.set_cons_succ, List.set_cons_zero]
              refine wpAny_done (by kernel_rfl) ?_ _
              go_wp2
              go_ret
              exact ⟨rfl, bl1.trans (bb5.mono bl1.size)⟩
            · skip
              go_simp
              refine hK _ _ ?_
              clear hK K
              have bb6 := bb2.trans ((Below.refl wr.heap.size wq2).alloc bb2.size (.cells (zcells k).toArray 5))
              have rm6 := zero_rd (U := 5) wq2 k hmax
              refine wpAny_ready (rs := [12]) (by kernel_rfl) (by simp) ?_
              refine AllReady.cons rfl (fun K hK => ?_) (AllReady.nil)
              go_simp
              go_wp2_with (go_at_call 14; refine Calls.mono (HS3.out _ bb6) ?_; rintro e wq7 ⟨rfl, bq7⟩)
              have bb7 := bb6.trans (bq7.mono bb6.size)
              have rm7 := rm6.below bq7
              refine take_put (i := 13) (d := 47) (v := ?_) rfl rfl (by kernel_rfl) (by kernel_rfl) (by kernel_rfl) (fun _ _ _ h => h) (Or.inl ⟨by rfl, ?_⟩) ?_
              rotate_left
              · intro w; go_simp; with_reducible rfl
              conv =>
                arg 7
                simp only [List.setIfInBounds_toArray, List.set_cons_succ, List.set_cons_zero]
              refine wpAny_ready (rs := [16]) (by kernel_rfl) (by simp) ?_
              refine AllReady.cons rfl (fun K hK => ?_) (AllReady.nil)
              go_simp
              go_wp2_with (go_at_call 14; refine Calls.mono (HS4.out _ _ rm7) ?_; rintro e wq8 ⟨rfl, bq8⟩)
              have bb8 := bb7.trans (bq8.mono bb7.size)
              refine take_put (i := 17) (d := 51) (v := ?_) rfl rfl (by kernel_rfl) (by kernel_rfl) (by kernel_rfl) (fun _ _ _ h => h) (Or.inl ⟨by rfl, ?_⟩) ?_
              rotate_left
              · intro w; go_simp; with_reducible rfl
              conv =>
                arg 7
                simp only [List.setIfInBounds_toArray, List.set_cons_succ, List.set_cons_zero]
              refine take_put (i := 18) (d := 52) (v := ?_) rfl rfl (by kernel_rfl) (by kernel_rfl) (by kernel_rfl) (fun _ _ _ h => h) (Or.inl ⟨by rfl, ?_⟩) ?_
              rotate_left
              · intro w; go_simp; with_reducible rfl
              conv =>
                arg 7
                simp only [List.setIfInBounds_toArray, List.set_cons_succ, List.set_cons_zero]
              refine take_put (i := 19) (d := 53) (v := ?_) rfl rfl (by kernel_rfl) (by kernel_rfl) (by kernel_rfl) (fun _ _ _ h => h) (Or.inl ⟨by rfl, ?_⟩) ?_
              rotate_left
              · intro w; go_simp; with_reducible rfl
              conv =>
                arg 7
                simp only [List.setIfInBounds_toArray, List.set_cons_succ, List.set_cons_zero]
              refine take_put (i := 20) (d := 4) (v := ?_) rfl rfl (by kernel_rfl) (by kernel_rfl) (by kernel_rfl) (fun _ _ _ h => h) (Or.inl ⟨by rfl, ?_⟩) ?_
              rotate_left
              · intro w; go_simp; with_reducible rfl
              conv =>
                arg 7
                simp only [List.setIfInBounds_toArray, List.set_cons_succ, List.set_cons_zero]
              refine wpAny_done (by kernel_rfl) ?_ _
              go_wp2
              go_ret
              exact ⟨rfl, bl1.trans (bb8.mono bl1.size)⟩
          · skip
            go_simp
            refine hK _ _ ?_
            clear hK K
            have bb9 := bb1.trans ((Below.refl wr.heap.size wq1).alloc bb1.size (.cells (zcells k).toArray 5))
            have rm9 := zero_rd (U := 5) wq1 k hmax
            refine wpAny_ready (rs := [9]) (by kernel_rfl) (by simp) ?_
            refine AllReady.cons rfl (fun K hK => ?_) (AllReady.nil)
            go_simp
            go_wp2_with (go_at_call 14; refine Calls.mono (HS2.out _ bb9) ?_; rintro e wq10 ⟨rfl, bq10⟩)
            have bb10 := bb9.trans (bq10.mono bb9.size)
            have rm10 := rm9.below bq10
            refine take_put (i := 10) (d := 44) (v := ?_) rfl rfl (by kernel_rfl) (by kernel_rfl) (by kernel_rfl) (fun _ _ _ h => h) (Or.inl ⟨by rfl, ?_⟩) ?_
            rotate_left
            · intro w; go_simp; with_reducible rfl
            conv =>
              arg 7
              simp only [List.setIfInBounds_toArray, List.set_cons_succ, List.set_cons_zero]
            refine wpAny_ready (rs := [12]) (by kernel_rfl) (by simp) ?_
            refine AllReady.cons rfl (fun K hK => ?_) (AllReady.nil)
            go_simp
            go_wp2_with (go_at_call 14; refine Calls.mono (HS3.out _ bb10) ?_; rintro e wq11 ⟨rfl, bq11⟩)
            have bb11 := bb10.trans (bq11.mono bb10.size)
            have rm11 := rm10.below bq11
            refine take_put (i := 13) (d := 47) (v := ?_) rfl rfl (by kernel_rfl) (by kernel_rfl) (by kernel_rfl) (fun _ _ _ h => h) (Or.inl ⟨by rfl, ?_⟩) ?_
            rotate_left
            · intro w; go_simp; with_reducible rfl
            conv =>
              arg 7
              simp only [List.setIfInBounds_toArray, List.set_cons_succ, List.set_cons_zero]
            refine wpAny_ready (rs := [16]) (by kernel_rfl) (by simp) ?_
            refine AllReady.cons rfl (fun K hK => ?_) (AllReady.nil)
            go_simp
            go_wp2_with (go_at_call 14; refine Calls.mono (HS4.out _ _ rm11) ?_; rintro e wq12 ⟨rfl, bq12⟩)
            have bb12 := bb11.trans (bq12.mono bb11.size)
            refine take_put (i := 17) (d := 51) (v := ?_) rfl rfl (by kernel_rfl) (by kernel_rfl) (by kernel_rfl) (fun _ _ _ h => h) (Or.inl ⟨by rfl, ?_⟩) ?_
            rotate_left
            · intro w; go_simp; with_reducible rfl
            conv =>
              arg 7
              simp only [List.setIfInBounds_toArray, List.set_cons_succ, List.set_cons_zero]
            refine take_put (i := 18) (d := 52) (v := ?_) rfl rfl (by kernel_rfl) (by kernel_rfl) (by kernel_rfl) (fun _ _ _ h => h) (Or.inl ⟨by rfl, ?_⟩) ?_
            rotate_left
            · intro w; go_simp; with_reducible rfl
            conv =>
              arg 7
              simp only [List.setIfInBounds_toArray, List.set_cons_succ, List.set_cons_zero]
            refine take_put (i := 19) (d := 53) (v := ?_) rfl rfl (by kernel_rfl) (by kernel_rfl) (by kernel_rfl) (fun _ _ _ h => h) (Or.inl ⟨by rfl, ?_⟩) ?_
            rotate_left
            · intro w; go_simp; with_reducible rfl
            conv =>
              arg 7
              simp only [List.setIfInBounds_toArray, List.set_cons_succ, List.set_cons_zero]
            refine take_put (i := 20) (d := 4) (v := ?_) rfl rfl (by kernel_rfl) (by kernel_rfl) (by kernel_rfl) (fun _ _ _ h => h) (Or.inl ⟨by rfl, ?_⟩) ?_
            rotate_left
            · intro w; go_simp; with_reducible rfl
            conv =>
              arg 7
              simp only [List.setIfInBounds_toArray, List.set_cons_succ, List.set_cons_zero]
            refine wpAny_done (by kernel_rfl) ?_ _
            go_wp2
            go_ret
            exact ⟨rfl, bl1.trans (bb12.mono bl1.size)⟩
        · skip
          go_simp
          refine hK _ _ ?_
          clear hK K
          have bb13 := bbp.trans ((Below.refl wr.heap.size wp).alloc bbp.size (.cells (zcells k).toArray 5))
          have rm13 := zero_rd (U := 5) wp k hmax
          refine wpAny_ready (rs := [5]) (by kernel_rfl) (by simp) ?_
          refine AllReady.cons rfl (fun K hK => ?_) (AllReady.nil)
          go_simp
          go_wp2_with (go_at_call 14; refine Calls.mono (HS1.out _ bb13) ?_; rintro e wq14 ⟨rfl, bq14⟩)
          have bb14 := bb13.trans (bq14.mono bb13.size)
          have rm14 := rm13.below bq14
          refine wpAny_ready (rs := [9]) (by kernel_rfl) (by simp) ?_
          refine AllReady.cons rfl (fun K hK => ?_) (AllReady.nil)
          go_simp
          go_wp2_with (go_at_call 14; refine Calls.mono (HS2.out _ bb14) ?_; rintro e wq15 ⟨rfl, bq15⟩)
          have bb15 := bb14.trans (bq15.mono bb14.size)
          have rm15 := rm14.below bq15
          refine take_put (i := 10) (d := 44) (v := ?_) rfl rfl (by kernel_rfl) (by kernel_rfl) (by kernel_rfl) (fun _ _ _ h => h) (Or.inl ⟨by rfl, ?_⟩) ?_
          rotate_left
          · intro w; go_simp; with_reducible rfl
          conv =>
            arg 7
            simp only [List.setIfInBounds_toArray, List.set_cons_succ, List.set_cons_zero]
          refine wpAny_ready (rs := [12]) (by kernel_rfl) (by simp) ?_
          refine AllReady.cons rfl (fun K hK => ?_) (AllReady.nil)
          go_simp
          go_wp2_with (go_at_call 14; refine Calls.mono (HS3.out _ bb15) ?_; rintro e wq16 ⟨rfl, bq16⟩)
          have bb16 := bb15.trans (bq16.mono bb15.size)
          have rm16 := rm15.below bq16
          refine take_put (i := 13) (d := 47) (v := ?_) rfl rfl (by kernel_rfl) (by kernel_rfl) (by kernel_rfl) (fun _ _ _ h => h) (Or.inl ⟨by rfl, ?_⟩) ?_
          rotate_left
          · intro w; go_simp; with_reducible rfl
          conv =>
            arg 7
            simp only [List.setIfInBounds_toArray, List.set_cons_succ, List.set_cons_zero]
          refine wpAny_ready (rs := [16]) (by kernel_rfl) (by simp) ?_
          refine AllReady.cons rfl (fun K hK => ?_) (AllReady.nil)
          go_simp
          go_wp2_with (go_at_call 14; refine Calls.mono (HS4.out _ _ rm16) ?_; rintro e wq17 ⟨rfl, bq17⟩)
          have bb17 := bb16.trans (bq17.mono bb16.size)
          refine take_put (i := 17) (d := 51) (v := ?_) rfl rfl (by kernel_rfl) (by kernel_rfl) (by kernel_rfl) (fun _ _ _ h => h) (Or.inl ⟨by rfl, ?_⟩) ?_
          rotate_left
          · intro w; go_simp; with_reducible rfl
          conv =>
            arg 7
            simp only [List.setIfInBounds_toArray, List.set_cons_succ, List.set_cons_zero]
          refine take_put (i := 18) (d := 52) (v := ?_) rfl rfl (by kernel_rfl) (by kernel_rfl) (by kernel_rfl) (fun _ _ _ h => h) (Or.inl ⟨by rfl, ?_⟩) ?_
          rotate_left
          · intro w; go_simp; with_reducible rfl
          conv =>
            arg 7
            simp only [List.setIfInBounds_toArray, List.set_cons_succ, List.set_cons_zero]
          refine take_put (i := 19) (d := 53) (v := ?_) rfl rfl (by kernel_rfl) (by kernel_rfl) (by kernel_rfl) (fun _ _ _ h => h) (Or.inl ⟨by rfl, ?_⟩) ?_
          rotate_left
          · intro w; go_simp; with_reducible rfl
          conv =>
            arg 7
            simp only [List.setIfInBounds_toArray, List.set_cons_succ, List.set_cons_zero]
          refine take_put (i := 20) (d := 4) (v := ?_) rfl rfl (by kernel_rfl) (by kernel_rfl) (by kernel_rfl) (fun _ _ _ h => h) (Or.inl ⟨by rfl, ?_⟩) ?_
          rotate_left
          · intro w; go_simp; with_reducible rfl
          conv =>
            arg 7
            simp only [List.setIfInBounds_toArray, List.set_cons_succ, List.set_cons_zero]
          refine wpAny_done (by kernel_rfl) ?_ _
          go_wp2
          go_ret
          exact ⟨rfl, bl1.trans (bb17.mono bl1.size)⟩
end Go.Proofs.Ytpainpekapnbhaa
