/-
  A reader reads a row of a state, and a list of rows.
-/
import Derived.Test.YtlnmmklpccppmaaGreatDoorTg49
import Derived.Test.YtlnmmklpccppmaaGreatDoorTg38
import Derived.Test.YtlnmmklpccppmaaGreatDoorTg41
namespace Go.Proofs.YtlnmmklpccppmaaGreatDoor
open Go.RowKit
theorem prow_1 {l : List UInt8} (h : pnum l = none) : prow l = none := by unfold prow; rw [h]; rfl
theorem prow_2 {l l1 : List UInt8} {a : Int} (h : pnum l = some (a, l1)) (h2 : pnum l1 = none) : prow l = none := by unfold prow; rw [h, Option.bind_some]; simp only; rw [h2]; rfl
theorem prow_3 {l l1 l2 : List UInt8} {a b : Int} (h : pnum l = some (a, l1)) (h2 : pnum l1 = some (b, l2)) (h3 : pnum l2 = none) : prow l = none := by
  unfold prow; rw [h, Option.bind_some]; simp only; rw [h2, Option.bind_some]; simp only; rw [h3]; rfl
theorem prow_4 {l l1 l2 l3 : List UInt8} {a b c : Int} (h : pnum l = some (a, l1)) (h2 : pnum l1 = some (b, l2)) (h3 : pnum l2 = some (c, l3)) (h4 : pint l3 = none) : prow l = none := by
  unfold prow; rw [h, Option.bind_some]; simp only; rw [h2, Option.bind_some]; simp only; rw [h3, Option.bind_some]; simp only; rw [h4]; rfl
theorem prow_5 {l l1 l2 l3 l4 : List UInt8} {a b c d : Int} (h : pnum l = some (a, l1)) (h2 : pnum l1 = some (b, l2)) (h3 : pnum l2 = some (c, l3)) (h4 : pint l3 = some (d, l4)) : prow l = some (⟨a, b, c, d⟩, l4) := by
  unfold prow; rw [h, Option.bind_some]; simp only; rw [h2, Option.bind_some]; simp only; rw [h3, Option.bind_some]; simp only; rw [h4]; rfl
/-- The boxes of row, and the reader's: what is known of them in a world. -/
structure RowMem (w : World) (g : Nat) (l : List UInt8) (o : Nat) (W : World) (x : Rw) : Prop where
  rb : Whole W w.heap.size 83 [.pointer (some ⟨g, 0, none⟩)]
  res : Whole W (w.heap.size + 1) 88 [.int .i64 0, .int .i64 0, .int .i64 0, .int .i64 0]
  ob : Whole W o 88 (rc4 x)
  rd : Rdr W g l
  gr : w.grownBy W (some g)
  lt : w.heap.size + 1 < o
theorem RowMem.call {w W W2 : World} {g o : Nat} {l l2 : List UInt8} {x : Rw} (h : RowMem w g l o W x) (hg : g < w.heap.size) (k : W.grownBy W2 (some g)) (r : Rdr W2 g l2) : RowMem w g l2 o W2 x := by
  have := h.lt
  exact ⟨h.rb.grown k (by omega), h.res.grown k (by omega), h.ob.grown k (by omega), r, grown_trans h.gr k, h.lt⟩
theorem rc4_nob (x : Rw) : ∀ u ∈ rc4 x, ∀ y, u ≠ .int .u8 y := by
  intro u hu y
  simp only [rc4, List.mem_cons, List.not_mem_nil, or_false] at hu
  rcases hu with rfl | rfl | rfl | rfl <;> (intro e; cases e)
theorem RowMem.set {w W : World} {g o : Nat} {l : List UInt8} {x : Rw} (h : RowMem w g l o W x) (hg : g < w.heap.size) (j : Nat) (v : Value) (y : Rw) (hs : (rc4 x).set j v = rc4 y) : RowMem w g l o (W.setCell ⟨o, j, none⟩ v) y := by
  have hl := h.lt
  have gs := grown_set W o j v
  exact ⟨h.rb.grown gs (by omega), h.res.grown gs (by omega), hs ▸ h.ob.set j v, h.rd.apart (h.ob.noByte (rc4_nob x)) (by omega) gs, grown_new h.gr (by omega) j v, hl⟩
set_option maxRecDepth 20000 in
set_option maxHeartbeats 2000000 in
theorem row_any (g : Nat) (l : List UInt8) (w : World) (hr : Rdr w g l) :
    Calls Tryz.prog 95 #[rdv g] w (Reads w g (prow l) fun x v _ => v = rwv x) := by
  have hgl := hr.lt
  unfold rdv
  go_enter Tryz.func95, Tryz.ntmps95
  go_wp2_with fail
  have KB := (Whole.new w #[.pointer (some ⟨g, 0, none⟩)] 83).alloc (.cells #[.int .i64 0, .int .i64 0, .int .i64 0, .int .i64 0] 88)
  have KO := Whole.new (w.alloc (.cells #[.pointer (some ⟨g, 0, none⟩)] 83)) #[.int .i64 0, .int .i64 0, .int .i64 0, .int .i64 0] 88
  rw [show (w.alloc (.cells #[.pointer (some ⟨g, 0, none⟩)] 83)).heap.size = w.heap.size + 1 by simp] at KO
  have R0 := (hr.alloc (.cells #[.pointer (some ⟨g, 0, none⟩)] 83)).alloc (.cells #[.int .i64 0, .int .i64 0, .int .i64 0, .int .i64 0] 88)
  have G0 := grown_below (((Below.refl w.heap.size w).alloc (Nat.le_refl _) (.cells #[.pointer (some ⟨g, 0, none⟩)] 83)).alloc (by simp) (.cells #[.int .i64 0, .int .i64 0, .int .i64 0, .int .i64 0] 88)) (some g)
  generalize (w.alloc (.cells #[.pointer (some ⟨g, 0, none⟩)] 83)).alloc (.cells #[.int .i64 0, .int .i64 0, .int .i64 0, .int .i64 0] 88) = W at KB KO R0 G0 ⊢
  refine (rdNumber_any g l W R0).mono ?_
  rintro e w1 ⟨hg1, hm⟩
  have KB1 := KB.grown hg1 (by omega)
  have KO1 := KO.grown hg1 (by omega)
  have G1 := Lib.hid (grown_trans G0 hg1)
  cases hq1 : pnum l with
  | none =>
    rw [hq1] at hm
    subst hm
    have Hst := Lib.hid (prow_1 hq1)
    clear hq1 KB KO R0 G0 KB1 KO1 hg1
    go_wp2
    exact ⟨rfl, G1.out, by rw [Hst.out]⟩
  | some q =>
    obtain ⟨a, l1⟩ := q
    rw [hq1] at hm
    obtain ⟨v, rfl, rfl, hr1⟩ := hm
    have H1 := Lib.hid hq1
    have M1 : RowMem w g l1 w1.heap.size (w1.alloc (.cells #[.int .i64 a, .int .i64 0, .int .i64 0, .int .i64 0] 88)) ⟨a, 0, 0, 0⟩ :=
      ⟨KB1.alloc _, KO1.alloc _, Whole.new w1 #[.int .i64 a, .int .i64 0, .int .i64 0, .int .i64 0] 88, hr1.alloc _, grown_trans G1.out (grown_below ((Below.refl _ _).alloc (Nat.le_refl _) _) _), KO1.lt⟩
    have b0 := KB1.cell 0
    have hsz := KB1.lt
    clear hq1 KB KO R0 G0 KB1 KO1 hg1 hr1 G1
    dsimp only
    go_wp2_with fail
    generalize w1.alloc (.cells #[.int .i64 a, .int .i64 0, .int .i64 0, .int .i64 0] 88) = W1 at M1 ⊢
    clear b0
    have M1 := Lib.hid M1
    refine (rdNumber_any g l1 W1 M1.out.rd).mono ?_
    rintro e w2 ⟨hg2, hm⟩
    cases hq2 : pnum l1 with
    | none =>
      rw [hq2] at hm
      subst hm
      have Hst := Lib.hid (prow_2 H1.out hq2)
      have G2 := Lib.hid (grown_trans M1.out.gr hg2)
      clear hq2 M1 hg2
      go_wp2
      exact ⟨rfl, G2.out, by rw [Hst.out]⟩
    | some q =>
      obtain ⟨b, l2⟩ := q
      rw [hq2] at hm
      obtain ⟨v, rfl, rfl, hr2⟩ := hm
      have H2 := Lib.hid hq2
      have N2 := M1.out.call hgl hg2 hr2
      have M2 := Lib.hid (N2.set hgl 1 (.int .i64 b) ⟨a, b, 0, 0⟩ rfl)
      have b0 := N2.rb.cell 0
      have c2 := N2.ob.cell 1
      have z2 := N2.ob.free 1
      have hne : ¬ w.heap.size = w1.heap.size := by omega
      clear hq2 M1 N2 hg2 hr2
      dsimp only
      go_wp2_with fail
      generalize w2.setCell ⟨w1.heap.size, 1, none⟩ (.int .i64 b) = W2 at M2 ⊢
      clear b0 c2 z2
      refine (rdNumber_any g l2 W2 M2.out.rd).mono ?_
      rintro e w3 ⟨hg3, hm⟩
      cases hq3 : pnum l2 with
      | none =>
        rw [hq3] at hm
        subst hm
        have Hst := Lib.hid (prow_3 H1.out H2.out hq3)
        have G3 := Lib.hid (grown_trans M2.out.gr hg3)
        clear hq3 M2 hg3
        go_wp2
        exact ⟨rfl, G3.out, by rw [Hst.out]⟩
      | some q =>
        obtain ⟨c, l3⟩ := q
        rw [hq3] at hm
        obtain ⟨v, rfl, rfl, hr3⟩ := hm
        have H3 := Lib.hid hq3
        have N3 := M2.out.call hgl hg3 hr3
        have M3 := Lib.hid (N3.set hgl 2 (.int .i64 c) ⟨a, b, c, 0⟩ rfl)
        have b0 := N3.rb.cell 0
        have c3 := N3.ob.cell 2
        have z3 := N3.ob.free 2
        have hne : ¬ w.heap.size = w1.heap.size := by omega
        clear hq3 M2 N3 hg3 hr3
        dsimp only
        go_wp2_with fail
        generalize w3.setCell ⟨w1.heap.size, 2, none⟩ (.int .i64 c) = W3 at M3 ⊢
        clear b0 c3 z3
        refine (rdInt_any g l3 W3 M3.out.rd).mono ?_
        rintro e w4 ⟨hg4, hm⟩
        cases hq4 : pint l3 with
        | none =>
          rw [hq4] at hm
          subst hm
          have Hst := Lib.hid (prow_4 H1.out H2.out H3.out hq4)
          have G4 := Lib.hid (grown_trans M3.out.gr hg4)
          clear hq4 M3 hg4
          go_wp2
          exact ⟨rfl, G4.out, by rw [Hst.out]⟩
        | some q =>
          obtain ⟨d, l4⟩ := q
          rw [hq4] at hm
          obtain ⟨v, rfl, rfl, hr4⟩ := hm
          have H4 := Lib.hid hq4
          have N4 := M3.out.call hgl hg4 hr4
          have M4 := Lib.hid (N4.set hgl 3 (.int .i64 d) ⟨a, b, c, d⟩ rfl)
          have b0 := N4.rb.cell 0
          have c4 := N4.ob.cell 3
          have z4 := N4.ob.free 3
          have hne : ¬ w.heap.size = w1.heap.size := by omega
          clear hq4 M3 N4 hg4 hr4
          dsimp only
          go_upto_region 5 with (fail)
          generalize w4.setCell ⟨w1.heap.size, 3, none⟩ (.int .i64 d) = W4 at M4 ⊢
          clear b0 c4 z4
          obtain ⟨o0, o1, o2, o3⟩ := (show Whole W4 w1.heap.size 88 [.int .i64 a, .int .i64 b, .int .i64 c, .int .i64 d] from M4.out.ob).four
          obtain ⟨p0, p1, p2, p3⟩ := M4.out.res.four
          have pf := M4.out.res.free
          have hlo := M4.out.lt
          have KF := (((M4.out.res.set 0 (.int .i64 a)).set 1 (.int .i64 b)).set 2 (.int .i64 c)).set 3 (.int .i64 d)
          have GF := grown_new (grown_new (grown_new (grown_new M4.out.gr (Nat.le_succ _) 0 (.int .i64 a)) (Nat.le_succ _) 1 (.int .i64 b)) (Nat.le_succ _) 2 (.int .i64 c)) (Nat.le_succ _) 3 (.int .i64 d)
          have g4 := grown_trans (grown_trans (grown_trans (grown_set W4 (w.heap.size + 1) 0 (.int .i64 a)) (grown_set _ (w.heap.size + 1) 1 (.int .i64 b))) (grown_set _ (w.heap.size + 1) 2 (.int .i64 c))) (grown_set _ (w.heap.size + 1) 3 (.int .i64 d))
          have RF := M4.out.rd.apart (M4.out.res.noByte (rc4_nob ⟨0, 0, 0, 0⟩)) (by omega : g ≠ w.heap.size + 1) g4
          have HF := Lib.hid (And.intro KF (And.intro GF RF))
          have Hf := Lib.hid (prow_5 H1.out H2.out H3.out H4.out)
          clear KF GF g4 RF M4 H1 H2 H3 H4
          go_wp2
          refine bodyPost_ret (results_c1 rfl _ _ _ _ rfl HF.out.1 Tryz.underlying88 (by kernel_rfl)) rfl ?_
          refine ⟨HF.out.2.1, ?_⟩
          rw [Hf.out]
          exact ⟨_, rfl, rfl, HF.out.2.2⟩
/-- So far: k of them are read and stored. -/
structure LRwsRel (w : World) (g n : Nat) (l : List UInt8) (k : Nat) (cur : List Value) (os : List Rw) (r : List UInt8) (wr : World) : Prop where
  le : k ≤ n
  prs : prep prow k l = some (os, r)
  rd : Rdr wr g r
  row : Whole wr w.heap.size 88 cur
  len : cur.length = n * 4
  nob : ∀ u ∈ cur, nobV u
  fst : cur.take (k * 4) = rwcs os
  gr : w.grownBy wr (some g)
theorem LRwsRel.lenOs {w wr : World} {g n k : Nat} {l r : List UInt8} {cur : List Value} {os : List Rw} (h : LRwsRel w g n l k cur os r wr) : os.length = k := prep_len h.prs
def LRwsLoop (w : World) (g n : Nat) (l : List UInt8) (i : Value) (wr : World) : Prop := ∃ (k : Nat) (cur : List Value) (os : List Rw) (r : List UInt8), i = .int .i64 (k : Int) ∧ LRwsRel w g n l k cur os r wr
theorem LRwsRel.step {w wr w2 : World} {g n k : Nat} {l r r' : List UInt8} {cur : List Value} {os : List Rw} (hr : Rdr w g l) (h : LRwsRel w g n l k cur os r wr) (hlt : k < n) {x : Rw} (hp : prow r = some (x, r')) (hg : wr.grownBy w2 (some g)) (rd2 : Rdr w2 g r') :
    LRwsRel w g n l (k + 1) ((((cur.set (k * 4) (.int .i64 x.cl)).set (k * 4 + 1) (.int .i64 x.sq)).set (k * 4 + 2) (.int .i64 x.co)).set (k * 4 + 3) (.int .i64 x.va)) (os ++ [x]) r'
      ((((w2.setCell ⟨w.heap.size, k * 4, none⟩ (.int .i64 x.cl)).setCell ⟨w.heap.size, k * 4 + 1, none⟩ (.int .i64 x.sq)).setCell ⟨w.heap.size, k * 4 + 2, none⟩ (.int .i64 x.co)).setCell ⟨w.heap.size, k * 4 + 3, none⟩ (.int .i64 x.va)) := by
  have hgl := hr.lt
  have W2 := h.row.grown hg (by omega)
  have gs : w2.grownBy ((((w2.setCell ⟨w.heap.size, k * 4, none⟩ (.int .i64 x.cl)).setCell ⟨w.heap.size, k * 4 + 1, none⟩ (.int .i64 x.sq)).setCell ⟨w.heap.size, k * 4 + 2, none⟩ (.int .i64 x.co)).setCell ⟨w.heap.size, k * 4 + 3, none⟩ (.int .i64 x.va)) (some w.heap.size) :=
    grown_trans (grown_trans (grown_trans (grown_set _ _ _ _) (grown_set _ _ _ _)) (grown_set _ _ _ _)) (grown_set _ _ _ _)
  refine ⟨hlt, prep_step h.prs hp, rd2.apart (W2.noByte h.nob) (by omega) gs, (((W2.set _ _).set _ _).set _ _).set _ _, by simp [h.len], ?_, ?_, ?_⟩
  · exact nobs_set (nobs_set (nobs_set (nobs_set h.nob _ (fun _ e => by cases e)) _ (fun _ e => by cases e)) _ (fun _ e => by cases e)) _ (fun _ e => by cases e)
  · rw [show (k + 1) * 4 = k * 4 + 4 by omega, sets4 (by rw [h.len]; omega), h.fst, rwcs_snoc]
    rfl
  · exact grown_new (grown_new (grown_new (grown_new (grown_trans h.gr hg) (Nat.le_refl _) _ _) (Nat.le_refl _) _ _) (Nat.le_refl _) _ _) (Nat.le_refl _) _ _
theorem LRwsRel.done {w wr : World} {g n : Nat} {l r : List UInt8} {cur : List Value} {os : List Rw} (h : LRwsRel w g n l n cur os r wr) (hn : n ≤ 1000) : OwnW wr w.heap.size (.slice (some ⟨w.heap.size, 0, none⟩) n n) os := by
  have hlo := h.lenOs
  unfold OwnW
  rw [hlo]
  exact h.row.ownS (Nat.le_refl _) h.len (by rw [rwcs_length, hlo]) (by rw [h.fst]) (by simp only [maxLen]; omega)
set_option maxRecDepth 20000 in
set_option maxHeartbeats 2000000 in
theorem listRow_any (n most : Nat) (hm : most ≤ 1000) (g : Nat) (l : List UInt8) (w : World) (hr : Rdr w g l) :
    Calls Tryz.prog 94 #[.int .i64 (n : Int), .int .i64 (most : Int), .func (.func 95) #[rdv g] #[]] w
      (Reads w g (if most < n then none else prep prow n l) fun xs v w' => OwnW w' w.heap.size v xs) := by
  by_cases hn : most < n
  · rw [if_pos hn]
    go_enter Tryz.func94, Tryz.ntmps94
    go_wp2_with fail
    refine (giveUp_any _).mono ?_
    rintro e w' ⟨rfl, rfl⟩
    go_wp2
    exact ⟨rfl, grown_refl _ _, rfl⟩
  · rw [if_neg hn]
    obtain ⟨cur, hcl, hcm, hmk⟩ := run_makeS (P := Tryz.prog) Tryz.underlying37 Tryz.infoRow rfl (by omega) n (by omega) (by omega)
    have HR : Hid (LRwsRel w g n l 0 cur [] l (w.alloc (.cells cur.toArray 88))) := Lib.hid ⟨Nat.zero_le _, rfl, hr.alloc _, Whole.new w cur.toArray 88, hcl, fun u hu x e => by
      have := hcm u hu
      subst e
      simp [Value.cells] at this, by simp [rwcs], grown_below ((Below.refl _ _).alloc (Nat.le_refl _) _) _⟩
    clear hcl hcm
    unfold rdv
    go_enter Tryz.func94, Tryz.ntmps94
    go_wp2
    clear hmk
    go_loopw [17] (LRwsLoop w g n l) (fun i _ => n - (intOf i).toNat)
    case atStart => exact ⟨0, cur, [], l, rfl, HR.out⟩
    case round =>
      clear HR
      obtain ⟨k, cur', os, r, rfl, hrel⟩ := hrel
      have Hrel := Lib.hid hrel
      have hk := hrel.le
      clear hrel
      by_cases hlt : k < n
      · have hki : (k : Int) < (n : Int) := by omega
        go_wp2_with fail
        refine (row_any g r wr Hrel.out.rd).mono ?_
        rintro e w2 ⟨hg2, hm2⟩
        cases hq : prow r with
        | none =>
          rw [hq] at hm2
          subst hm2
          have Hst := Lib.hid (prep_stop Hrel.out.prs hq hlt)
          have G2 := Lib.hid (grown_trans Hrel.out.gr hg2)
          clear hq hg2
          go_wp2
          exact ⟨rfl, G2.out, by rw [Hst.out]⟩
        | some q =>
          obtain ⟨x, r'⟩ := q
          rw [hq] at hm2
          obtain ⟨v, rfl, rfl, rd2⟩ := hm2
          have Hs := Lib.hid (Hrel.out.step hr hlt hq hg2 rd2)
          have W2 := Hrel.out.row.grown hg2 (by have := hr.lt; omega)
          have hkl : k * 4 + 4 ≤ cur'.length := by rw [Hrel.out.len]; omega
          obtain ⟨u0, hu0⟩ : ∃ u, w2.cell? ⟨w.heap.size, k * 4, none⟩ = some u := ⟨_, by rw [W2.cell, List.getElem?_eq_getElem (by omega)]⟩
          obtain ⟨u1, hu1⟩ : ∃ u, w2.cell? ⟨w.heap.size, k * 4 + 1, none⟩ = some u := ⟨_, by rw [W2.cell, List.getElem?_eq_getElem (by omega)]⟩
          obtain ⟨u2, hu2⟩ : ∃ u, w2.cell? ⟨w.heap.size, k * 4 + 2, none⟩ = some u := ⟨_, by rw [W2.cell, List.getElem?_eq_getElem (by omega)]⟩
          obtain ⟨u3, hu3⟩ : ∃ u, w2.cell? ⟨w.heap.size, k * 4 + 3, none⟩ = some u := ⟨_, by rw [W2.cell, List.getElem?_eq_getElem (by omega)]⟩
          have z0 := W2.free (k * 4)
          have z1 := W2.free (k * 4 + 1)
          have z2 := W2.free (k * 4 + 2)
          have z3 := W2.free (k * 4 + 3)
          obtain ⟨x0, x1, x2, x3⟩ := x
          simp only at Hs
          clear hq hg2 rd2 W2 hkl
          dsimp only [rwv, rc4]
          go_wp2
          go_roundw
          case rel => exact ⟨k + 1, _, _, r', by go_num, Hs.out⟩
          case measure => simp [intOf]; omega
      · obtain rfl : k = n := by omega
        have Hd := Lib.hid (Hrel.out.done (by omega))
        go_wp2
        go_ret
        refine ⟨Hrel.out.gr, ?_⟩
        rw [Hrel.out.prs]
        exact ⟨_, rfl, Hd.out, Hrel.out.rd⟩
end Go.Proofs.YtlnmmklpccppmaaGreatDoor
