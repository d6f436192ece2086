/-
  Two laws for a region that draws its order, said over a frame that is written out. Plain lemmas over any program.
  A list of ints, or of numbers, that a reader reads: the contract of list.
  A reader reads an object.
-/
import Derived.Test.YtlnmmklpccppmaaGreatDoorTg1
import Derived.Test.YtlnmmklpccppmaaGreatDoorTg36
import Derived.Test.YtlnmmklpccppmaaGreatDoorTg17
import Derived.Test.YtlnmmklpccppmaaGreatDoorTg35
import Derived.Test.YtlnmmklpccppmaaGreatDoorTg19
namespace Go.Proofs.YtlnmmklpccppmaaGreatDoor
open Go.RowKit
/-- An operation that yields in whatever world is taken first; the frame stays written out. -/
theorem take_put {P : Program} {md : Region.Mode} {ops : Array Oper} {Q : Exit → Act → World → Prop} {i d : Nat} {oi : Oper} {v : Value} {fuel : Nat} {listed : Array Bool} {T : Array Value} {D : List Deferred} {w : World} (hi : ops[i]? = some oi) (hd : oi.dst = some d)
    (hs : Region.noSelect ops = true) (hf : Region.free md ops listed i = true) (hr : (Region.ready md ops listed).contains i = true)
    (hQ : ∀ c a w, Q (.panic c) (a.put oi.dst v) w → Q (.panic c) a w) (hy : Yields P ops oi v ⟨T, D⟩)
    (h : wpAny P md ops Q fuel (listed.setIfInBounds i true) ⟨T.setIfInBounds d v, D⟩ w) : wpAny P md ops Q (fuel + 1) listed ⟨T, D⟩ w :=
  wpAny_take hi hs hf hr hQ hy (by rw [hd]; exact h)
end Go.Proofs.YtlnmmklpccppmaaGreatDoor
namespace Go.Proofs.YtlnmmklpccppmaaGreatDoor
open Go.RowKit
theorem ivs_noByte (vs : List Int) (m : Nat) : ∀ u ∈ ivs vs ++ reps m (.int .i64 0), ∀ x, u ≠ .int .u8 x := by
  intro u hu x e
  subst e
  rcases List.mem_append.1 hu with h | h
  · unfold ivs at h
    obtain ⟨y, _, h⟩ := List.mem_map.1 h
    cases h
  · have := List.eq_of_mem_replicate h
    cases this
/-- So far: k of them are read and stored. -/
def ListRel (p : Prs Int) (w : World) (g n : Nat) (l : List UInt8) (i : Value) (wr : World) : Prop :=
  ∃ (k : Nat) (vs : List Int) (r : List UInt8), k ≤ n ∧ i = .int .i64 (k : Int) ∧ prep p k l = some (vs, r) ∧ Rdr wr g r ∧ Whole wr w.heap.size 3 (ivs vs ++ reps (n - k) (.int .i64 0)) ∧ w.grownBy wr (some g) ∧ w.heap.size < wr.heap.size
set_option maxHeartbeats 2000000 in
theorem listInt_any (F : FuncId) (p : Prs Int) (hF : F = 97 ∨ F = 84) (hp : ∀ g l w, Rdr w g l → Calls Tryz.prog F #[rdv g] w (Reads w g (p l) fun n v _ => v = .int .i64 n)) (n most : Nat) (hm : most ≤ 1000) (g : Nat) (l : List UInt8) (w : World) (hr : Rdr w g l) :
    Calls Tryz.prog 128 #[.int .i64 (n : Int), .int .i64 (most : Int), .func (.func F) #[rdv g] #[]] w (Reads w g (if most < n then none else prep p n l) fun vs v w' => OwnV 3 w' w.heap.size v (ivs vs)) := by
  have Hp := Lib.hid hp
  by_cases hn : most < n
  · rw [if_pos hn]
    rcases hF with rfl | rfl
    all_goals
      go_enter Tryz.func128, Tryz.ntmps128
      go_wp2_with fail
      refine (giveUp_any _).mono ?_
      rintro e w' ⟨rfl, rfl⟩
      go_wp2
      exact ⟨rfl, grown_refl _ _, rfl⟩
  · rw [if_neg hn]
    have hn2 : n ≤ 1000 := by omega
    have hmk := run_makeV (P := Tryz.prog) Tryz.underlying66 Tryz.infoInt rfl n (by omega) (by omega)
    have K0 := Lib.hid (Whole.new w (reps n (.int .i64 0)).toArray 3)
    have HR := Lib.hid (hr.alloc (.cells (reps n (.int .i64 0)).toArray 3))
    have G0 := Lib.hid (grown_below ((Below.refl w.heap.size w).alloc (Nat.le_refl _) (.cells (reps n (.int .i64 0)).toArray 3)) (some g))
    rcases hF with rfl | rfl
    all_goals
      go_enter Tryz.func128, Tryz.ntmps128
      go_wp2
      clear hmk
      go_loopw [17] (ListRel p w g n l) (fun i _ => n - (intOf i).toNat)
      case atStart => exact ⟨0, [], l, Nat.zero_le _, rfl, rfl, HR.out, K0.out, G0.out, by simp⟩
      case round =>
        obtain ⟨k, vs, r, hk, rfl, hpr, hrd, hw, hgr, hsz⟩ := hrel
        have hlen := prep_len hpr
        by_cases hlt : k < n
        · have hki : (k : Int) < (n : Int) := by omega
          have Hw := Lib.hid hw
          have Hg := Lib.hid hgr
          have Hs := Lib.hid hsz
          have Hpr := Lib.hid hpr
          clear hw hgr hsz hpr
          go_wp2_with fail
          refine (Hp.out g r wr hrd).mono ?_
          rintro e w' ⟨hg2, hm2⟩
          cases hq : p r with
          | none =>
            rw [hq] at hm2
            subst hm2
            have hst := prep_stop Hpr.out hq hlt
            clear hq
            go_wp2
            exact ⟨rfl, grown_trans Hg.out hg2, by rw [hst]⟩
          | some q =>
            obtain ⟨x, r'⟩ := q
            rw [hq] at hm2
            obtain ⟨v, rfl, rfl, hr2⟩ := hm2
            have Hq := Lib.hid (prep_step Hpr.out hq)
            have hne : w.heap.size ≠ g := by have := hr.lt; omega
            have W2 := Hw.out.grown hg2 hne
            have hk1 : n - k = (n - (k + 1)) + 1 := by omega
            rw [hk1] at W2
            have c0 := W2.cell k
            rw [List.getElem?_append_right (by rw [ivs_length]; omega), ivs_length, hlen, Nat.sub_self] at c0
            have c1 : w'.cell? ⟨w.heap.size, k, none⟩ = some (.int .i64 0) := c0
            have z0 := W2.free k
            have W3 := Lib.hid (W2.setAt (u := .int .i64 x) (k := k) (by rw [ivs_length]; exact hlen))
            have R3 := Lib.hid (hr2.apart (W2.noByte (ivs_noByte _ _)) hne.symm (grown_set w' w.heap.size k (.int .i64 x)))
            have G3 := Lib.hid (grown_new (grown_trans Hg.out hg2) (Nat.le_refl _) k (.int .i64 x))
            have S3 := Lib.hid (show w.heap.size < (w'.setCell ⟨w.heap.size, k, none⟩ (.int .i64 x)).heap.size from by have := hg2.size; have := Hs.out; simp [World.setCell]; omega)
            clear hq hk1 c0 W2 hr2 hg2 hlen hrd hne
            go_wp2
            go_roundw
            case rel =>
              refine ⟨k + 1, vs ++ [x], r', by omega, by go_num, Hq.out, R3.out, ?_, G3.out, S3.out⟩
              have := W3.out
              unfold ivs at this ⊢
              rw [List.map_append]
              exact this
            case measure => simp [intOf]; omega
        · obtain rfl : k = n := by omega
          rw [Nat.sub_self] at hw
          have Hf := Lib.hid (show OwnV 3 wr w.heap.size (.slice (some ⟨w.heap.size, 0, none⟩) (ivs vs).length (ivs vs).length) (ivs vs) from by
            have h1 : Whole wr w.heap.size 3 (ivs vs) := by simpa [reps] using hw
            exact h1.own (Nat.le_refl _) (by rw [ivs_length, hlen]; simp only [maxLen]; omega))
          rw [ivs_length, hlen] at Hf
          have Hpr := Lib.hid hpr
          have Hg := Lib.hid hgr
          have Hr := Lib.hid hrd
          clear hw hpr hgr hrd hlen hsz
          go_wp2
          go_ret
          exact Reads.some_ Hpr.out Hg.out Hf.out Hr.out
end Go.Proofs.YtlnmmklpccppmaaGreatDoor
namespace Go.Proofs.YtlnmmklpccppmaaGreatDoor
open Go.RowKit
theorem pobj_1 {l : List UInt8} (h : pnum l = none) : pobj l = none := by unfold pobj; rw [h]; rfl
theorem pobj_2 {l l1 : List UInt8} {hd : Int} (h : pnum l = some (hd, l1)) (h2 : pnum l1 = none) : pobj l = none := by unfold pobj; rw [h, Option.bind_some]; simp only; rw [h2]; rfl
theorem pobj_3 {l l1 l2 : List UInt8} {hd a : Int} (h : pnum l = some (hd, l1)) (h2 : pnum l1 = some (a, l2)) (h3 : pnum l2 = none) : pobj l = none := by
  unfold pobj; rw [h, Option.bind_some]; simp only; rw [h2, Option.bind_some]; simp only; rw [h3]; rfl
theorem pobj_4 {l l1 l2 l3 : List UInt8} {hd a w : Int} (h : pnum l = some (hd, l1)) (h2 : pnum l1 = some (a, l2)) (h3 : pnum l2 = some (w, l3)) (h4 : pnum l3 = none) : pobj l = none := by
  unfold pobj; rw [h, Option.bind_some]; simp only; rw [h2, Option.bind_some]; simp only; rw [h3, Option.bind_some]; simp only; rw [h4]; rfl
theorem pobj_5 {l l1 l2 l3 l4 : List UInt8} {hd a w k : Int} (h : pnum l = some (hd, l1)) (h2 : pnum l1 = some (a, l2)) (h3 : pnum l2 = some (w, l3)) (h4 : pnum l3 = some (k, l4)) : pobj l = pobj2 hd a w k l4 := by
  unfold pobj; rw [h, Option.bind_some]; simp only; rw [h2, Option.bind_some]; simp only; rw [h3, Option.bind_some]; simp only; rw [h4]; rfl
/-- What is behind a list that is bounded. -/
theorem pobj2_1 {hd a : Int} {w k : Nat} {l : List UInt8} (h : (if 32 < w then none else prep pint w l) = none) : pobj2 hd a (w : Int) k l = none := by
  unfold pobj2
  by_cases h1 : (32 : Int) < (w : Int)
  · rw [if_pos h1]
  · rw [if_neg (by omega)] at h
    rw [if_neg h1, Int.toNat_natCast, h]
    rfl
theorem pobj2_2 {hd a : Int} {w k : Nat} {l l5 : List UInt8} {ws : List Int} (h : (if 32 < w then none else prep pint w l) = some (ws, l5)) (h2 : (if 16 < k then none else prep pnum k l5) = none) : pobj2 hd a (w : Int) (k : Int) l = none := by
  unfold pobj2
  split at h
  · cases h
  · rw [if_neg (by omega), Int.toNat_natCast, h, Option.bind_some]
    simp only
    by_cases h1 : (16 : Int) < (k : Int)
    · rw [if_pos h1]
    · rw [if_neg (by omega)] at h2
      rw [if_neg h1, Int.toNat_natCast, h2]
      rfl
theorem pobj2_3 {hd a : Int} {w k : Nat} {l l5 l6 : List UInt8} {ws ls : List Int} (h : (if 32 < w then none else prep pint w l) = some (ws, l5)) (h2 : (if 16 < k then none else prep pnum k l5) = some (ls, l6)) : pobj2 hd a (w : Int) (k : Int) l = some (⟨hd, (a, needI w k), ws, ls⟩, l6) := by
  unfold pobj2
  split at h
  · cases h
  · split at h2
    · cases h2
    · rw [if_neg (by omega), Int.toNat_natCast, h, Option.bind_some]
      simp only
      rw [if_neg (by omega), Int.toNat_natCast, h2]
      rfl
/-- The boxes of object, and the reader's: what is known of them in a world. -/
structure ObjMem (w : World) (g : Nat) (l : List UInt8) (o : Nat) (W : World) (c0 c1 c2 c3 c4 : Value) : Prop where
  rb : Whole W w.heap.size 83 [.pointer (some ⟨g, 0, none⟩)]
  res : Whole W (w.heap.size + 1) 68 [.int .i64 0, .int .i64 0, .int .i64 0, .slice none 0 0, .slice none 0 0]
  ob : Whole W o 68 [c0, c1, c2, c3, c4]
  rd : Rdr W g l
  gr : w.grownBy W (some g)
  lt : w.heap.size + 1 < o
theorem ObjMem.call {w W W2 : World} {g o : Nat} {l l2 : List UInt8} {c0 c1 c2 c3 c4 : Value} (h : ObjMem w g l o W c0 c1 c2 c3 c4) (hg : g < w.heap.size) (k : W.grownBy W2 (some g)) (r : Rdr W2 g l2) : ObjMem w g l2 o W2 c0 c1 c2 c3 c4 := by
  have := h.lt
  exact ⟨h.rb.grown k (by omega), h.res.grown k (by omega), h.ob.grown k (by omega), r, grown_trans h.gr k, h.lt⟩
def nob (v : Value) : Prop := ∀ x, v ≠ .int .u8 x
theorem nob_int (x : Int) : nob (.int .i64 x) := fun y e => by cases e
theorem nob_slice (A : Option Addr) (n c : Nat) : nob (.slice A n c) := fun y e => by cases e
theorem ObjMem.set {w W : World} {g o : Nat} {l : List UInt8} {c0 c1 c2 c3 c4 : Value} (h : ObjMem w g l o W c0 c1 c2 c3 c4) (hg : g < w.heap.size) (hn : nob c0 ∧ nob c1 ∧ nob c2 ∧ nob c3 ∧ nob c4) (j : Nat) (v d0 d1 d2 d3 d4 : Value) (hs : ([c0, c1, c2, c3, c4] : List Value).set j v = [d0, d1, d2, d3, d4]) : ObjMem w g l o (W.setCell ⟨o, j, none⟩ v) d0 d1 d2 d3 d4 := by
  have hl := h.lt
  have gs := grown_set W o j v
  refine ⟨h.rb.grown gs (by omega), h.res.grown gs (by omega), hs ▸ h.ob.set j v, h.rd.apart (h.ob.noByte ?_) (by omega) gs, grown_new h.gr (by omega) j v, hl⟩
  intro u hu x
  simp only [List.mem_cons, List.not_mem_nil, or_false] at hu
  rcases hu with rfl | rfl | rfl | rfl | rfl
  · exact hn.1 x
  · exact hn.2.1 x
  · exact hn.2.2.1 x
  · exact hn.2.2.2.1 x
  · exact hn.2.2.2.2 x
set_option maxHeartbeats 2000000 in
theorem object_any (g : Nat) (l : List UInt8) (w : World) (hr : Rdr w g l) :
    Calls Tryz.prog 86 #[rdv g] w (Reads w g (pobj l) fun x v w' => ∃ s : OSl, v = .agg (oc (x, s)).toArray ∧ OwnV 3 w' w.heap.size s.wv (ivs x.ws) ∧ OwnV 3 w' w.heap.size s.lv (ivs x.ls) ∧ ∀ k, s.wv.ownBlock = some k → s.lv.ownBlock ≠ some k) := by
  have hgl := hr.lt
  have hmf : ∀ (fn : Fn) (first cap : Array Value) (w : World), (Instr.makeFunc fn first cap).run Tryz.prog w = .ok (.func fn first cap) w := fun _ _ _ _ => rfl
  have Hmf := Lib.hid hmf
  clear hmf
  unfold rdv
  go_enter Tryz.func86, Tryz.ntmps86
  go_wp2_with fail
  have KB := (Whole.new w #[.pointer (some ⟨g, 0, none⟩)] 83).alloc (.cells #[.int .i64 0, .int .i64 0, .int .i64 0, .slice none 0 0, .slice none 0 0] 68)
  have KO := Whole.new (w.alloc (.cells #[.pointer (some ⟨g, 0, none⟩)] 83)) #[.int .i64 0, .int .i64 0, .int .i64 0, .slice none 0 0, .slice none 0 0] 68
  rw [show (w.alloc (.cells #[.pointer (some ⟨g, 0, none⟩)] 83)).heap.size = w.heap.size + 1 by simp] at KO
  have R0 := (hr.alloc (.cells #[.pointer (some ⟨g, 0, none⟩)] 83)).alloc (.cells #[.int .i64 0, .int .i64 0, .int .i64 0, .slice none 0 0, .slice none 0 0] 68)
  have G0 := grown_below (((Below.refl w.heap.size w).alloc (Nat.le_refl _) (.cells #[.pointer (some ⟨g, 0, none⟩)] 83)).alloc (by simp) (.cells #[.int .i64 0, .int .i64 0, .int .i64 0, .slice none 0 0, .slice none 0 0] 68)) (some g)
  generalize (w.alloc (.cells #[.pointer (some ⟨g, 0, none⟩)] 83)).alloc (.cells #[.int .i64 0, .int .i64 0, .int .i64 0, .slice none 0 0, .slice none 0 0] 68) = W at KB KO R0 G0 ⊢
  refine (rdNumber_any g l W R0).mono ?_
  rintro e w1 ⟨hg1, hm⟩
  have KB1 := KB.grown hg1 (by omega)
  have KO1 := KO.grown hg1 (by omega)
  have G1 := Lib.hid (grown_trans G0 hg1)
  cases hq1 : pnum l with
  | none =>
    rw [hq1] at hm
    subst hm
    have Hst := Lib.hid (pobj_1 hq1)
    clear hq1 KB KO R0 G0 KB1 KO1 hg1
    go_wp2
    exact ⟨rfl, G1.out, by rw [Hst.out]⟩
  | some q =>
    obtain ⟨hd, l1⟩ := q
    rw [hq1] at hm
    obtain ⟨v, rfl, rfl, hr1⟩ := hm
    have H1 := Lib.hid hq1
    have M1 : ObjMem w g l1 w1.heap.size (w1.alloc (.cells #[.int .i64 hd, .int .i64 0, .int .i64 0, .slice none 0 0, .slice none 0 0] 68)) (.int .i64 hd) (.int .i64 0) (.int .i64 0) (.slice none 0 0) (.slice none 0 0) :=
      ⟨KB1.alloc _, KO1.alloc _, Whole.new w1 #[.int .i64 hd, .int .i64 0, .int .i64 0, .slice none 0 0, .slice none 0 0] 68, hr1.alloc _, grown_trans G1.out (grown_below ((Below.refl _ _).alloc (Nat.le_refl _) _) _), KO1.lt⟩
    have b0 := KB1.cell 0
    have hsz := KB1.lt
    clear hq1 KB KO R0 G0 KB1 KO1 hg1 hr1 G1
    dsimp only
    go_wp2_with fail
    generalize w1.alloc (.cells #[.int .i64 hd, .int .i64 0, .int .i64 0, .slice none 0 0, .slice none 0 0] 68) = W1 at M1 ⊢
    clear b0
    refine (rdNumber_any g l1 W1 M1.rd).mono ?_
    rintro e w2 ⟨hg2, hm⟩
    cases hq2 : pnum l1 with
    | none =>
      rw [hq2] at hm
      subst hm
      have Hst := Lib.hid (pobj_2 H1.out hq2)
      have G2 := Lib.hid (grown_trans M1.gr hg2)
      clear hq2 M1 hg2
      go_wp2
      exact ⟨rfl, G2.out, by rw [Hst.out]⟩
    | some q =>
      obtain ⟨a, l2⟩ := q
      rw [hq2] at hm
      obtain ⟨v, rfl, rfl, hr2⟩ := hm
      have H2 := Lib.hid hq2
      have M2 := M1.call hgl hg2 hr2
      have M3 := Lib.hid (M2.set hgl ⟨nob_int _, nob_int _, nob_int _, nob_slice _ _ _, nob_slice _ _ _⟩ 1 (.int .i64 a) (.int .i64 hd) (.int .i64 a) (.int .i64 0) (.slice none 0 0) (.slice none 0 0) rfl)
      have b0 := M2.rb.cell 0
      have c1 := M2.ob.cell 1
      have z1 := M2.ob.free 1
      have hne : ¬ w.heap.size = w1.heap.size := by omega
      clear hq2 M1 M2 hg2 hr2
      dsimp only
      go_wp2_with fail
      generalize w2.setCell ⟨w1.heap.size, 1, none⟩ (.int .i64 a) = W2 at M3 ⊢
      clear b0 c1 z1
      refine (rdNumber_any g l2 W2 M3.out.rd).mono ?_
      rintro e w3 ⟨hg3, hm⟩
      cases hq3 : pnum l2 with
      | none =>
        rw [hq3] at hm
        subst hm
        have Hst := Lib.hid (pobj_3 H1.out H2.out hq3)
        have G3 := Lib.hid (grown_trans M3.out.gr hg3)
        clear hq3 M3 hg3
        go_wp2
        exact ⟨rfl, G3.out, by rw [Hst.out]⟩
      | some q =>
        obtain ⟨ww, l3⟩ := q
        rw [hq3] at hm
        obtain ⟨v, rfl, rfl, hr3⟩ := hm
        have H3 := Lib.hid hq3
        have M4 := M3.out.call hgl hg3 hr3
        have HM4 := Lib.hid M4
        have b0 := M4.rb.cell 0
        clear hq3 M3 hg3 hr3 M4
        dsimp only
        go_wp2_with fail
        clear b0
        refine (rdNumber_any g l3 w3 HM4.out.rd).mono ?_
        rintro e w4 ⟨hg4, hm⟩
        cases hq4 : pnum l3 with
        | none =>
          rw [hq4] at hm
          subst hm
          have Hst := Lib.hid (pobj_4 H1.out H2.out H3.out hq4)
          have G4 := Lib.hid (grown_trans HM4.out.gr hg4)
          clear hq4 HM4 hg4
          go_wp2
          exact ⟨rfl, G4.out, by rw [Hst.out]⟩
        | some q =>
          obtain ⟨kk, l4⟩ := q
          rw [hq4] at hm
          obtain ⟨v, rfl, rfl, hr4⟩ := hm
          have hp5 := pobj_5 H1.out H2.out H3.out hq4
          have hw0 := (pnum_codec.sound _ _ _ H3.out).1.1
          have hk0 := (pnum_codec.sound _ _ _ hq4).1.1
          obtain ⟨wn, rfl⟩ := Int.eq_ofNat_of_zero_le hw0
          obtain ⟨kn, rfl⟩ := Int.eq_ofNat_of_zero_le hk0
          have H5 := Lib.hid hp5
          have M5 := HM4.out.call hgl hg4 hr4
          have HM5 := Lib.hid M5
          have b0 := M5.rb.cell 0
          have hmf := Hmf.out
          clear hq4 HM4 hg4 hr4 M5 hp5 hw0 hk0 H1 H2 H3
          dsimp only
          go_wp2_with fail
          clear b0 hmf
          refine (listInt_any _ pint (.inl rfl) rdInt_any wn 32 (by omega) g l4 w4 HM5.out.rd).mono ?_
          rintro e w5 ⟨hg5, hm⟩
          cases hq5 : (if 32 < wn then none else prep pint wn l4) with
          | none =>
            rw [hq5] at hm
            subst hm
            have Hst := Lib.hid (H5.out.trans (pobj2_1 hq5))
            have G5 := Lib.hid (grown_trans HM5.out.gr hg5)
            clear hq5 HM5 hg5
            go_wp2
            exact ⟨rfl, G5.out, by rw [Hst.out]⟩
          | some q =>
            obtain ⟨ws, l5⟩ := q
            rw [hq5] at hm
            obtain ⟨v, rfl, ho5, hr5⟩ := hm
            obtain ⟨Aw, cw, rfl, hcw, hmw, hrw⟩ := ho5.shape (n := ws.length) (by rw [ivs_length])
            have H6 := Lib.hid hq5
            have M6 := HM5.out.call hgl hg5 hr5
            have M7 := Lib.hid (M6.set hgl ⟨nob_int _, nob_int _, nob_int _, nob_slice _ _ _, nob_slice _ _ _⟩ 3 (.slice Aw ws.length cw) (.int .i64 hd) (.int .i64 a) (.int .i64 0) (.slice Aw ws.length cw) (.slice none 0 0) rfl)
            have hs4 := HM5.out.ob.lt
            have O7 := Lib.hid (ho5.grown (grown_set w5 w1.heap.size 3 (.slice Aw ws.length cw)) (fun e => by have := (ho5.lt _ e).1; omega))
            have b0 := M6.rb.cell 0
            have c3 := M6.ob.cell 3
            have z3 := M6.ob.free 3
            have hmf := Hmf.out
            clear hq5 HM5 hg5 hr5 M6 hrw ho5
            generalize hnw : ws.length = nw at *
            have Hnw := Lib.hid hnw
            clear hnw
            dsimp only
            go_wp2_with fail
            generalize w5.setCell ⟨w1.heap.size, 3, none⟩ (.slice Aw nw cw) = W5 at M7 O7 ⊢
            clear b0 c3 z3 hmf
            refine (listInt_any _ pnum (.inr rfl) rdNumber_any kn 16 (by omega) g l5 W5 M7.out.rd).mono ?_
            rintro e w6 ⟨hg6, hm⟩
            cases hq6 : (if 16 < kn then none else prep pnum kn l5) with
            | none =>
              rw [hq6] at hm
              subst hm
              have Hst := Lib.hid (H5.out.trans (pobj2_2 H6.out hq6))
              have G6 := Lib.hid (grown_trans M7.out.gr hg6)
              clear hq6 M7 hg6
              go_wp2
              exact ⟨rfl, G6.out, by rw [Hst.out]⟩
            | some q =>
              obtain ⟨ls, l6⟩ := q
              rw [hq6] at hm
              obtain ⟨v, rfl, ho6, hr6⟩ := hm
              obtain ⟨nl, hnl⟩ : ∃ nl, ls.length = nl := ⟨_, rfl⟩
              obtain ⟨Al, cl, rfl, hcl, hml, hrl⟩ := ho6.shape (n := nl) (by rw [ivs_length]; exact hnl)
              have Hf := Lib.hid (H5.out.trans (pobj2_3 H6.out hq6))
              have M8 := M7.out.call hgl hg6 hr6
              have hs5 := M7.out.ob.lt
              have hs6 : W5.heap.size ≤ w6.heap.size := hg6.size
              have hdis : ∀ k, (Value.slice Aw nw cw).ownBlock = some k → (Value.slice Al nl cl).ownBlock ≠ some k := fun k e1 e2 => by
                have h1 := (O7.out.lt k e1).2
                have h2 := (ho6.lt k e2).1
                omega
              have hwb : ∀ k, (Value.slice Aw nw cw).ownBlock = some k → w4.heap.size ≤ k := fun k e1 => (O7.out.lt k e1).1
              have O8 := O7.out.grown hg6 (fun e => by have := hwb _ e; omega)
              have O9 := Lib.hid (O8.grown (grown_set w6 w1.heap.size 4 (.slice Al nl cl)) (fun e => by have := hwb _ e; omega))
              have P9 := Lib.hid (ho6.grown (grown_set w6 w1.heap.size 4 (.slice Al nl cl)) (fun e => by have := (ho6.lt _ e).1; omega))
              have M9 := Lib.hid (M8.set hgl ⟨nob_int _, nob_int _, nob_int _, nob_slice _ _ _, nob_slice _ _ _⟩ 4 (.slice Al nl cl) (.int .i64 hd) (.int .i64 a) (.int .i64 0) (.slice Aw nw cw) (.slice Al nl cl) rfl)
              have c4 := M8.ob.cell 4
              have z4 := M8.ob.free 4
              have Hd := Lib.hid hdis
              have Hwb := Lib.hid hwb
              clear hq6 M7 hg6 hr6 M8 hrl ho6 O7 O8 H5 H6 hdis hwb hnl
              dsimp only
              go_wp2_with fail
              generalize w6.setCell ⟨w1.heap.size, 4, none⟩ (.slice Al nl cl) = W6 at M9 O9 P9 ⊢
              clear c4 z4
              refine (need_any wn kn W6).mono ?_
              rintro e W6' ⟨rfl, rfl⟩
              have M10 := Lib.hid (M9.out.set hgl ⟨nob_int _, nob_int _, nob_int _, nob_slice _ _ _, nob_slice _ _ _⟩ 2 (.int .i64 (needI wn kn)) (.int .i64 hd) (.int .i64 a) (.int .i64 (needI wn kn)) (.slice Aw nw cw) (.slice Al nl cl) rfl)
              have o0 := M9.out.ob.cell 0
              have o1 := M9.out.ob.cell 1
              have o2 := M9.out.ob.cell 2
              have o3 := M9.out.ob.cell 3
              have o4 := M9.out.ob.cell 4
              have z2 := M9.out.ob.free 2
              have p0 := M9.out.res.cell 0
              have p1 := M9.out.res.cell 1
              have p2 := M9.out.res.cell 2
              have p3 := M9.out.res.cell 3
              have p4 := M9.out.res.cell 4
              have y0 := M9.out.res.free 0
              have y1 := M9.out.res.free 1
              have y2 := M9.out.res.free 2
              have y3 := M9.out.res.free 3
              have y4 := M9.out.res.free 4
              have hlo := M9.out.lt
              have hne2 : ¬ w1.heap.size = w.heap.size + 1 := by omega
              have hne3 : ¬ w.heap.size + 1 = w1.heap.size := by omega
              have KF := (((((M10.out.res.set 0 (.int .i64 hd)).set 1 (.int .i64 a)).set 2 (.int .i64 (needI wn kn))).set 3 (.slice Aw nw cw)).set 4 (.slice Al nl cl))
              have GF := (grown_new (grown_new (grown_new (grown_new (grown_new M10.out.gr (Nat.le_succ _) 0 (.int .i64 hd)) (Nat.le_succ _) 1 (.int .i64 a)) (Nat.le_succ _) 2 (.int .i64 (needI wn kn))) (Nat.le_succ _) 3 (.slice Aw nw cw)) (Nat.le_succ _) 4 (.slice Al nl cl))
              have g5 := (grown_trans (grown_trans (grown_trans (grown_trans (grown_set (W6.setCell ⟨w1.heap.size, 2, none⟩ (.int .i64 (needI wn kn))) (w.heap.size + 1) 0 (.int .i64 hd)) (grown_set _ (w.heap.size + 1) 1 (.int .i64 a))) (grown_set _ (w.heap.size + 1) 2 (.int .i64 (needI wn kn)))) (grown_set _ (w.heap.size + 1) 3 (.slice Aw nw cw))) (grown_set _ (w.heap.size + 1) 4 (.slice Al nl cl)))
              have RF := M10.out.rd.apart (M10.out.res.noByte (by
                intro u hu x
                simp only [List.mem_cons, List.not_mem_nil, or_false] at hu
                rcases hu with rfl | rfl | rfl | rfl | rfl
                · exact nob_int 0 x
                · exact nob_int 0 x
                · exact nob_int 0 x
                · exact nob_slice _ _ _ x
                · exact nob_slice _ _ _ x)) (by omega : g ≠ w.heap.size + 1) g5
              have OW := ((O9.out.grown (grown_set W6 w1.heap.size 2 (.int .i64 (needI wn kn))) (fun e => by have := Hwb.out _ e; omega)).grown g5 (fun e => by have := Hwb.out _ e; omega)).mono (base' := w.heap.size) (by omega)
              have OL := ((P9.out.grown (grown_set W6 w1.heap.size 2 (.int .i64 (needI wn kn))) (fun e => by have := (P9.out.lt _ e).1; omega)).grown g5 (fun e => by have := (P9.out.lt _ e).1; omega)).mono (base' := w.heap.size) (by omega)
              have HF := Lib.hid (And.intro KF (And.intro GF (And.intro RF (And.intro OW OL))))
              clear KF GF g5 RF OW OL M10 M9 O9 P9 Hwb
              dsimp only
              go_wp2
              refine bodyPost_ret (results_c1 rfl _ _ _ _ rfl HF.out.1 Tryz.underlying68 (by kernel_rfl)) rfl ?_
              refine ⟨HF.out.2.1, ?_⟩
              rw [Hf.out]
              exact ⟨_, rfl, ⟨⟨.slice Aw nw cw, .slice Al nl cl⟩, rfl, HF.out.2.2.2.1, HF.out.2.2.2.2, Hd.out⟩, HF.out.2.2.1⟩
end Go.Proofs.YtlnmmklpccppmaaGreatDoor
