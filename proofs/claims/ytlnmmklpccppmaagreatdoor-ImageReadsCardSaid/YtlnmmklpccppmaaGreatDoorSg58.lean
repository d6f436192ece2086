/-
  The document's own reading of heaps: the contract of tumulusref06.GetHeap.
-/
import Derived.Test.YtlnmmklpccppmaaGreatDoorSg56
import Derived.Test.YtlnmmklpccppmaaGreatDoorSg57
import Derived.Test.YtlnmmklpccppmaaGreatDoorSg43
import Derived.Test.YtlnmmklpccppmaaGreatDoorSg23
import Derived.Deep.DeepCutAuto
import Derived.Deep.CutBlock
namespace Go.Proofs.YtlnmmklpccppmaaGreatDoor
open Go.RowKit
/-- The boxes of the document's GetHeap, and its reader's. -/
structure GhM (w : World) (s : InS) (W : World) (cs : List Value) : Prop where
  res : Whole W w.heap.size 26 zcs
  hb : Whole W (w.heap.size + 2) 26 cs
  inr : InR w W (w.heap.size + 1) s
section
variable {w W W2 : World} {s s2 : InS} {cs : List Value}
theorem GhM.call (h : GhM w s W cs) (k : W.grownBy W2 (some (w.heap.size + 1))) (r : InR w W2 (w.heap.size + 1) s2) : GhM w s2 W2 cs :=
  ⟨h.res.grown k (by omega), h.hb.grown k (by omega), r⟩
theorem GhM.set (h : GhM w s W cs) (j : Nat) (v : Value) : GhM w s (W.setCell ⟨w.heap.size + 2, j, none⟩ v) (cs.set j v) := by
  have gs := grown_set W (w.heap.size + 2) j v
  exact ⟨h.res.grown gs (by omega), h.hb.set j v, h.inr.grown gs (fun e => by injection e with e; omega) (fun k e => by injection e with e; omega)⟩
theorem GhM.other {r : Option Nat} (h : GhM w s W cs) (k : W.grownBy W2 r) (hr : ∀ q, r = some q → w.heap.size + 3 ≤ q) : GhM w s W2 cs :=
  ⟨h.res.keep (k.block _ h.res.lt fun e => by have := hr _ e.symm; omega), h.hb.keep (k.block _ h.hb.lt fun e => by have := hr _ e.symm; omega), h.inr.grown k (fun e => by have := hr _ e.symm; omega) (fun q e => by have := hr q e; omega)⟩
end
/-- The roots so far. -/
def TpRel (w : World) (od nx1 : Int) (s : InS) (i : Value) (wr : World) : Prop :=
  ∃ k : Nat, k ≤ 4 ∧ i = .int .i64 (k : Int) ∧ GhM w (rep (nx pnum) k s).2 wr (tcs od nx1 (.slice none 0 0) (.slice none 0 0) (rep (nx pnum) k s).1 (4 - k))
/-- The objects so far. -/
def ObRel (w : World) (cnt od nx1 t0 t1 t2 t3 : Int) (s : InS) (i : Value) (wr : World) : Prop :=
  ∃ (k : Nat) (os : List (Ob × OSl)) (st : InS) (A : Option Addr) (c : Nat), i = .int .i64 (k : Int) ∧ (k : Int) ≤ cnt ∧ k ≤ 257 ∧ rep iobj k s = (os.map (·.1), st) ∧
    GhM w st wr [.int .i64 od, .slice A os.length c, .int .i64 nx1, .int .i64 t0, .int .i64 t1, .int .i64 t2, .int .i64 t3, .slice none 0 0] ∧ OwnOs 68 3 wr (w.heap.size + 3) (.slice A os.length c) os
theorem infoOb5 : (Tryz.prog.info? 68).map (fun i => (i.zero, i.size, i.bytes)) = some (some (.agg #[.int .i64 0, .int .i64 0, .int .i64 0, .slice none 0 0, .slice none 0 0]), 5, 72) := by kernel_rfl
/-- One object more comes to the row's end. -/
theorem app_ob {W : World} {base b2 : Nat} {A : Option Addr} {c : Nat} {os : List (Ob × OSl)} (h : OwnOs 68 3 W base (.slice A os.length c) os) (x : Ob) (s : OSl) (hl : os.length ≤ 1000) (hb : base ≤ b2)
    (hw : OwnV 3 W b2 s.wv (ivs x.ws)) (hv : OwnV 3 W b2 s.lv (ivs x.ls)) (hd : ∀ k, s.wv.ownBlock = some k → s.lv.ownBlock ≠ some k) (hold : ∀ k ∈ blocksOf os, k < b2) (hb2 : b2 ≤ W.heap.size) :
    ∃ A' c' W', (Builtin.append_ #[22, 22] 22 #[.slice A os.length c, .slice (some ⟨W.heap.size, 0, none⟩) 1 1]).run Tryz.prog (W.alloc (.cells #[.int .i64 x.hd, .int .i64 x.bl.1, .int .i64 x.bl.2, s.wv, s.lv] 68)) = .ok (.slice A' (os ++ [(x, s)]).length c') W' ∧
      OwnOs 68 3 W' base (.slice A' (os ++ [(x, s)]).length c') (os ++ [(x, s)]) ∧ W.grownBy W' (Value.slice A os.length c).ownBlock := by
  obtain ⟨v', W', hrun, hrow, hg, _⟩ := run_appO (P := Tryz.prog) 22 22 Tryz.underlying22 infoOb5 rfl h.row (x, s) hw.oneCell hv.oneCell (by omega) (Nat.le_trans hb hb2)
  have hn : (twoB s).Nodup := by
    unfold twoB
    rw [List.nodup_append]
    refine ⟨?_, ?_, fun a ha b hb e => ?_⟩
    · cases s.wv.ownBlock <;> simp
    · cases s.lv.ownBlock <;> simp
    · subst e
      rw [Option.mem_toList] at ha hb
      exact hd a ha hb
  have O := h.snoc (by decide) (p := (x, s)) (hw.mono hb) (hv.mono hb) hn (fun k hk hk2 => by
    have h1 := hold k hk2
    rcases mem_two.1 hk with e | e
    · have := (hw.lt k e).1; omega
    · have := (hv.lt k e).1; omega) hrow hg
  obtain ⟨A', c', e, _⟩ := O.rd
  subst e
  exact ⟨A', c', W', hrun, O, hg⟩
theorem gh_small {s : InS} {k : Nat} {os : List (Ob × OSl)} {st : InS} {od nx1 t0 t1 t2 t3 : Int} {G : List Blk} (h : rep iobj k s = (os.map (·.1), st)) (hk : k ≤ 257) (hG : G.length ≤ 256) : SmallH ⟨od, os.map (·.1), nx1, [t0, t1, t2, t3], G⟩ := by
  have h1 := rep_len (f := iobj) s k
  rw [h] at h1
  simp only at h1
  refine ⟨by simp only; omega, by simp only; omega, fun x hx => ?_⟩
  have h2 := rep_all (Q := IObOk) iobj_ok s k x (by rw [h]; exact hx)
  exact ⟨by have := h2.ws; omega, by have := h2.ls; omega⟩
set_option maxRecDepth 20000 in
set_option maxHeartbeats 4000000 in
theorem refGetHeap_any (A : Option Addr) (n c : Nat) (b : List UInt8) (w : World) (hr : Rd w A n b) (hnc : n ≤ c) (hcm : c ≤ maxLen) :
    Calls Tryz.prog 29 #[.slice A n c] w (GotH w b) := by
  obtain ⟨a0, h0⟩ : ∃ a0, a0 = nx pnum (b, false) := ⟨_, rfl⟩
  obtain ⟨a1, h1⟩ : ∃ a1, a1 = nx pnum a0.2 := ⟨_, rfl⟩
  obtain ⟨t, h2⟩ : ∃ t, t = rep (nx pnum) 4 a1.2 := ⟨_, rfl⟩
  obtain ⟨q, h3⟩ : ∃ q, q = nx pnum t.2 := ⟨_, rfl⟩
  have HD := Lib.hid (show Head b a0 a1 t q from ⟨h0, h1, h2, h3⟩)
  have nq := Lib.hid (show IsNum q.1 from by rw [h3]; exact nx_num _)
  have nn := Lib.hid (show IsNum a1.1 from by rw [h1]; exact nx_num _)
  have Ht := Lib.hid h2
  have htl : t.1.length = 4 := by rw [h2]; exact rep_len _ 4
  have S1 := fun W (r : InR w W (w.heap.size + 1) (b, false)) => inNumber_any (w.heap.size + 1) (b, false) w W r
  have S2 := fun W (r : InR w W (w.heap.size + 1) a0.2) => inNumber_any (w.heap.size + 1) a0.2 w W r
  have S3 := fun W (r : InR w W (w.heap.size + 1) t.2) => inNumber_any (w.heap.size + 1) t.2 w W r
  rw [← h0] at S1
  rw [← h1] at S2
  rw [← h3] at S3
  have HR := Lib.hid hr
  have HC := Lib.hid (And.intro hnc hcm)
  have HL := Lib.hid htl
  clear h0 h1 h2 h3 hr hnc hcm htl
  go_enter Tryz.func29, Tryz.ntmps29
  go_upto_region 3 with (fail)
  have M0 : GhM w (b, false) (((w.alloc (.cells #[.int .i64 0, .slice none 0 0, .int .i64 0, .int .i64 0, .int .i64 0, .int .i64 0, .int .i64 0, .slice none 0 0] 26)).alloc (.cells #[.slice A n c, .bool false] 102)).alloc (.cells #[.int .i64 0, .slice none 0 0, .int .i64 0, .int .i64 0, .int .i64 0, .int .i64 0, .int .i64 0, .slice none 0 0] 26)) zcs := by
    have K1 := (Whole.new w #[.int .i64 0, .slice none 0 0, .int .i64 0, .int .i64 0, .int .i64 0, .int .i64 0, .int .i64 0, .slice none 0 0] 26)
    have b1 := (Below.refl w.heap.size w).alloc (Nat.le_refl _) (.cells #[.int .i64 0, .slice none 0 0, .int .i64 0, .int .i64 0, .int .i64 0, .int .i64 0, .int .i64 0, .slice none 0 0] 26)
    have z1 : (w.alloc (.cells #[.int .i64 0, .slice none 0 0, .int .i64 0, .int .i64 0, .int .i64 0, .int .i64 0, .int .i64 0, .slice none 0 0] 26)).heap.size = w.heap.size + 1 := by simp
    generalize w.alloc (.cells #[.int .i64 0, .slice none 0 0, .int .i64 0, .int .i64 0, .int .i64 0, .int .i64 0, .int .i64 0, .slice none 0 0] 26) = W1 at K1 b1 z1 ⊢
    have K2 := Whole.new W1 #[.slice A n c, .bool false] 102
    rw [z1] at K2
    have b2 := b1.alloc b1.size (.cells #[.slice A n c, .bool false] 102)
    have K1' := K1.alloc (.cells #[.slice A n c, .bool false] 102)
    have z2 : (W1.alloc (.cells #[.slice A n c, .bool false] 102)).heap.size = w.heap.size + 2 := by simp; omega
    generalize W1.alloc (.cells #[.slice A n c, .bool false] 102) = W2 at K1' b2 z2 K2 ⊢
    have K3 := Whole.new W2 #[.int .i64 0, .slice none 0 0, .int .i64 0, .int .i64 0, .int .i64 0, .int .i64 0, .int .i64 0, .slice none 0 0] 26
    rw [z2] at K3
    exact ⟨K1'.alloc _, K3, A, n, c, K2.alloc _, HR.out, b2.alloc b2.size _, by omega, HC.out.1, HC.out.2⟩
  generalize ((w.alloc (.cells #[.int .i64 0, .slice none 0 0, .int .i64 0, .int .i64 0, .int .i64 0, .int .i64 0, .int .i64 0, .slice none 0 0] 26)).alloc (.cells #[.slice A n c, .bool false] 102)).alloc (.cells #[.int .i64 0, .slice none 0 0, .int .i64 0, .int .i64 0, .int .i64 0, .int .i64 0, .int .i64 0, .slice none 0 0] 26) = W at M0 ⊢
  have M0 := Lib.hid M0
  clear HR HC
  go_wp2_with fail
  refine (S1 W M0.out.inr).mono ?_
  rintro e w1 ⟨rfl, g1, r1⟩
  have N1 := M0.out.call g1 r1
  have M1 := Lib.hid (N1.set 0 (.int .i64 a0.1))
  have c0 : w1.cell? ⟨w.heap.size + 2, 0, none⟩ = some (.int .i64 0) := N1.hb.cell 0
  have z0 := N1.hb.free 0
  clear N1 g1 r1 M0 S1
  go_wp2_with fail
  generalize w1.setCell ⟨w.heap.size + 2, 0, none⟩ (.int .i64 a0.1) = W1 at M1 ⊢
  clear c0 z0
  refine (S2 W1 M1.out.inr).mono ?_
  rintro e w2 ⟨rfl, g2, r2⟩
  have N2 := M1.out.call g2 r2
  have M2 := Lib.hid (N2.set 2 (.int .i64 a1.1))
  have c0 : w2.cell? ⟨w.heap.size + 2, 2, none⟩ = some (.int .i64 0) := N2.hb.cell 2
  have z0 := N2.hb.free 2
  clear N2 g2 r2 M1 S2
  go_upto_region 6 with (fail)
  generalize w2.setCell ⟨w.heap.size + 2, 2, none⟩ (.int .i64 a1.1) = W2 at M2 ⊢
  clear c0 z0
  simp only [zcs, List.set_cons_zero, List.set_cons_succ] at M2
  have ST := Lib.hid (show TpRel w a0.1 a1.1 a1.2 (.int .i64 0) W2 from ⟨0, by omega, rfl, M2.out⟩)
  clear M2
  go_loopw [6] (TpRel w a0.1 a1.1 a1.2) (fun i _ => 4 - (intOf i).toNat)
  case atStart => exact ST.out
  case round =>
    clear ST
    obtain ⟨k, hk, rfl, hm⟩ := hrel
    have HM := Lib.hid hm
    clear hm
    by_cases hlt : k < 4
    · have hki : (k : Int) < 4 := by omega
      have S := inNumber_any (w.heap.size + 1) (rep (nx pnum) k a1.2).2 w wr HM.out.inr
      obtain ⟨x, hx⟩ : ∃ x, x = nx pnum (rep (nx pnum) k a1.2).2 := ⟨_, rfl⟩
      rw [← hx] at S
      have HS := Lib.hid (show rep (nx pnum) (k + 1) a1.2 = ((rep (nx pnum) k a1.2).1 ++ [x.1], x.2) from by rw [hx]; rfl)
      have hl := rep_len (f := nx pnum) a1.2 k
      clear hx
      obtain ⟨m, hm4⟩ : ∃ m, 4 - k = m + 1 := ⟨3 - k, by omega⟩
      rw [hm4] at HM
      go_wp2_with fail
      refine S.mono ?_
      rintro e w3 ⟨rfl, g3, r3⟩
      have N3 := HM.out.call g3 r3
      have c3 : w3.cell? ⟨w.heap.size + 2, 3 + k, none⟩ = some (.int .i64 0) := by
        have h9 := tcs_get a0.1 a1.1 (.slice none 0 0) (.slice none 0 0) (rep (nx pnum) k a1.2).1 m
        rw [hl] at h9
        rw [N3.hb.cell]
        exact h9
      have z3 := N3.hb.free (3 + k)
      have M3 := Lib.hid (show GhM w x.2 (w3.setCell ⟨w.heap.size + 2, 3 + k, none⟩ (.int .i64 x.1)) (tcs a0.1 a1.1 (.slice none 0 0) (.slice none 0 0) ((rep (nx pnum) k a1.2).1 ++ [x.1]) m) from by
        rw [← tcs_set, hl]
        exact N3.set (3 + k) (.int .i64 x.1))
      have hmk : 4 - (k + 1) = m := by omega
      clear S N3 g3 r3 hl HM hm4
      go_wp2
      go_roundw
      case rel => exact ⟨k + 1, by omega, by go_num, by rw [hmk, HS.out]; exact M3.out⟩
      case measure => simp [intOf]; omega
    · obtain rfl : k = 4 := by omega
      rw [← Ht.out] at HM
      obtain ⟨tl, ts⟩ := t
      simp only at HM HL S3
      match tl, HL.out with
      | [t0, t1, t2, t3], _ =>
      have HM := Lib.hid (show GhM w ts wr [.int .i64 a0.1, .slice none 0 0, .int .i64 a1.1, .int .i64 t0, .int .i64 t1, .int .i64 t2, .int .i64 t3, .slice none 0 0] from HM.out)
      clear Ht
      go_wp2_with fail
      refine (S3 wr HM.out.inr).mono ?_
      rintro e w4 ⟨rfl, g4, r4⟩
      have M4 := Lib.hid (HM.out.call g4 r4)
      have q0 := nq.out.1
      have ST := Lib.hid (show ObRel w q.1 a0.1 a1.1 t0 t1 t2 t3 q.2 (.int .i64 0) w4 from ⟨0, [], q.2, none, 0, rfl, q0, by omega, rfl, M4.out, OwnOs.nil⟩)
      clear S3 g4 r4 HM M4
      go_upto_block 2 with (fail)
      go_cut [8] (fun v wc => ∃ (k : Nat) (os : List (Ob × OSl)) (st : InS) (Ao : Option Addr) (co : Nat), ((k : Int) ≤ q.1 ∧ k ≤ 257 ∧ rep iobj k q.2 = (os.map (·.1), st) ∧
        GhM w st wc [.int .i64 a0.1, .slice Ao os.length co, .int .i64 a1.1, .int .i64 t0, .int .i64 t1, .int .i64 t2, .int .i64 t3, .slice none 0 0] ∧ OwnOs 68 3 wc (w.heap.size + 3) (.slice Ao os.length co) os) ∧ ¬ ((k : Int) < q.1 ∧ k ≤ 256 ∧ st.2 = false))
      case first =>
        go_wp2_with fail
        go_loopw [8] (ObRel w q.1 a0.1 a1.1 t0 t1 t2 t3 q.2) (fun i _ => 257 - (intOf i).toNat)
        case atStart => exact ST.out
        case round =>
          clear ST
          obtain ⟨k, os, st, Ao, co, rfl, hkq, hk7, hrep, hm, hown⟩ := hrel
          have HM := Lib.hid hm
          have HW := Lib.hid hown
          have HP := Lib.hid hrep
          have hmi := hm.inr.cells
          obtain ⟨Ai, ni, ci, _, x1, _⟩ := hmi
          obtain ⟨lr, bd⟩ := st
          simp only at x1
          have Hq := Lib.hid hkq
          clear hm hown hrep hkq
          by_cases h1 : (k : Int) < q.1
          case neg =>
            have hd1 : decide ((k : Int) < q.1) = false := decide_eq_false h1
            have HE := Lib.hid (show ¬ ((k : Int) < q.1 ∧ k ≤ 256 ∧ bd = false) from fun z => h1 z.1)
            clear h1
            go_wp2_with fail
            go_meet
            exact ⟨k, os, (lr, bd), Ao, co, ⟨Hq.out, hk7, HP.out, HM.out, HW.out⟩, HE.out⟩
          have hd1 : decide ((k : Int) < q.1) = true := decide_eq_true h1
          by_cases h2 : k ≤ 256
          case neg =>
            have hd2 : decide ((k : Int) ≤ 256) = false := decide_eq_false (by omega)
            have HE := Lib.hid (show ¬ ((k : Int) < q.1 ∧ k ≤ 256 ∧ bd = false) from fun z => h2 z.2.1)
            clear h2
            go_wp2_with fail
            go_meet
            exact ⟨k, os, (lr, bd), Ao, co, ⟨Hq.out, hk7, HP.out, HM.out, HW.out⟩, HE.out⟩
          have hd2 : decide ((k : Int) ≤ 256) = true := decide_eq_true (by omega)
          cases bd with
          | true =>
            have HE := Lib.hid (show ¬ ((k : Int) < q.1 ∧ k ≤ 256 ∧ true = false) from fun z => by cases z.2.2)
            go_wp2_with fail
            go_meet
            exact ⟨k, os, (lr, true), Ao, co, ⟨Hq.out, hk7, HP.out, HM.out, HW.out⟩, HE.out⟩
          | false =>
          have S := inObject_any (w.heap.size + 1) (lr, false) w wr HM.out.inr
          obtain ⟨x, hx⟩ : ∃ x, x = iobj (lr, false) := ⟨_, rfl⟩
          rw [← hx] at S
          have HS := Lib.hid (show rep iobj (k + 1) q.2 = (os.map (·.1) ++ [x.1], x.2) from by
            show ((rep iobj k q.2).1 ++ [(iobj (rep iobj k q.2).2).1], (iobj (rep iobj k q.2).2).2) = _
            rw [HP.out, ← hx])
          have hol := Lib.hid (show os.length = k from by
            have h1 := rep_len (f := iobj) q.2 k
            rw [HP.out] at h1
            simpa using h1)
          clear hx
          go_wp2_with fail
          refine S.mono ?_
          rintro e w5 ⟨sl, rfl, g5, r5, ow, ol, hd⟩
          obtain ⟨xo, xs⟩ := x
          obtain ⟨xh, ⟨xa, xr⟩, xw, xl⟩ := xo
          obtain ⟨sw, sv⟩ := sl
          obtain ⟨Aw, nw, cw, rfl⟩ := ow.form3
          obtain ⟨Al, nl, cl, rfl⟩ := ol.form3
          simp only at ow ol hd r5
          have N5 := HM.out.call g5 r5
          have W5 := HW.out.grown g5 (fun z hz e => by have := (HW.out.row_lt z hz).1; injection e with e; omega) (fun z hz e => by have := (HW.out.lt z hz).1; injection e with e; omega)
          have bA := (Below.refl w5.heap.size w5).alloc (Nat.le_refl _) (.cells #[.int .i64 xh, .int .i64 xa, .int .i64 xr, .slice Aw nw cw, .slice Al nl cl] 68)
          have KA := Whole.new w5 #[.int .i64 xh, .int .i64 xa, .int .i64 xr, .slice Aw nw cw, .slice Al nl cl] 68
          have N6 := N5.other (grown_below bA none) (fun z e => by cases e)
          have W6 := W5.below bA
          have ow6 := ow.below bA
          have ol6 := ol.below bA
          have hsz6 : wr.heap.size ≤ (w5.alloc (.cells #[.int .i64 xh, .int .i64 xa, .int .i64 xr, .slice Aw nw cw, .slice Al nl cl] 68)).heap.size := Nat.le_trans g5.size bA.size
          obtain ⟨p9, hp9⟩ : ∃ p9, p9 = w5.heap.size := ⟨_, rfl⟩
          have hbw := Lib.hid (show w.heap.size + 3 ≤ wr.heap.size from by have := HM.out.hb.lt; omega)
          have hold := Lib.hid (fun z hz => (HW.out.lt z hz).2)
          clear S g5 r5 N5 W5 bA ow ol
          dsimp only [oc]
          go_upto_region 14 with (fail)
          rw [← hp9] at KA ⊢
          generalize w5.alloc (.cells #[.int .i64 xh, .int .i64 xa, .int .i64 xr, .slice Aw nw cw, .slice Al nl cl] 68) = W6' at KA N6 W6 ow6 ol6 hsz6 ⊢
          obtain ⟨y0, y1, y2, y3, y4⟩ := KA.five
          have y5 : W6'.cell? ⟨w.heap.size + 2, 1, none⟩ = some (.slice Ao os.length co) := N6.hb.cell 1
          obtain ⟨A7, c7, W7, hap, O7, g7⟩ := app_ob W6 ⟨xh, (xa, xr), xw, xl⟩ ⟨.slice Aw nw cw, .slice Al nl cl⟩ (by have := hol.out; omega) hbw.out ow6 ol6 hd hold.out hsz6
          obtain ⟨os2, hos2⟩ : ∃ os2 : List (Ob × OSl), os2 = os ++ [((⟨xh, (xa, xr), xw, xl⟩ : Ob), (⟨.slice Aw nw cw, .slice Al nl cl⟩ : OSl))] := ⟨_, rfl⟩
          have Hm2 := Lib.hid (show os2.map (·.1) = os.map (·.1) ++ [(⟨xh, (xa, xr), xw, xl⟩ : Ob)] from by rw [hos2, List.map_append]; rfl)
          rw [← hos2] at hap O7
          clear hos2
          have N7 := N6.other g7 (fun z e => (W6.row_lt z e).1)
          have y6 : W7.cell? ⟨w.heap.size + 2, 1, none⟩ = some (.slice Ao os.length co) := N7.hb.cell 1
          have z6 := N7.hb.free 1
          have gs := grown_set W7 (w.heap.size + 2) 1 (.slice A7 os2.length c7)
          have N8 := N7.set 1 (.slice A7 os2.length c7)
          simp only [List.set_cons_zero, List.set_cons_succ] at N8
          have O8 := O7.grown gs (fun z hz e => by have := (O7.row_lt z hz).1; injection e with e; omega) (fun z hz e => by have := (O7.lt z hz).1; injection e with e; omega)
          have HF := Lib.hid (show ObRel w q.1 a0.1 a1.1 t0 t1 t2 t3 q.2 (.int .i64 ((k + 1 : Nat) : Int)) _ from ⟨k + 1, os2, xs, A7, c7, rfl, by omega, by omega, by rw [HS.out, Hm2.out], N8, O8⟩)
          simp only at hap
          generalize os2.length = Ln at *
          clear N6 N7 N8 O7 O8 g7 gs W6 ow6 ol6 hsz6 KA hp9 hd
          go_wp2_with (at_builtin; refine wpList_append_run hap rfl _ _ rfl rfl rfl rfl ?_)
          go_roundw
          case rel => first | exact HF.out | (have h9 := HF.out; push_cast at h9; exact h9)
          case measure => simp [intOf]; omega
      case rest =>
        obtain ⟨k, os, st, Ao, co, ⟨hkq, hk7, hrep, hm, hown⟩, hE⟩ := hcut
        clear ST
        have HM := Lib.hid hm
        have HW := Lib.hid hown
        have HP := Lib.hid hrep
        have HE := Lib.hid hE
        have Hk7 := Lib.hid hk7
        have Hkq := Lib.hid hkq
        have hol := Lib.hid (show os.length = k from by
          have h1 := rep_len (f := iobj) q.2 k
          rw [hrep] at h1
          simpa using h1)
        obtain ⟨Ai, ni, ci, x0, x1, hni⟩ := hm.inr.cells
        have y0 : wc.cell? ⟨w.heap.size + 2, 0, none⟩ = some (.int .i64 a0.1) := hm.hb.cell 0
        have y1 : wc.cell? ⟨w.heap.size + 2, 1, none⟩ = some (.slice Ao os.length co) := hm.hb.cell 1
        obtain ⟨lr, bd⟩ := st
        simp only at x1 hni
        have Hni := Lib.hid hni
        clear hm hown hrep hE hk7 hkq hni
        obtain ⟨W8, hW8⟩ : ∃ W8, W8 = wc := ⟨_, rfl⟩
        subst hW8
        go_upto_region 15 with (fail)
        go_cut [79] (fun v wd => wd = W8 ∧ ((v = .bool true ∧ (bd = true ∨ lr ≠ [] ∨ ¬ (3 ≤ a0.1 ∧ a0.1 ≤ 8) ∨ q.1 ≠ (k : Int))) ∨ (v = .bool false ∧ bd = false ∧ lr = [] ∧ (3 ≤ a0.1 ∧ a0.1 ≤ 8) ∧ q.1 = (k : Int))))
        case first =>
          cases bd with
          | true =>
            go_wp2_with fail
            go_meet
            exact ⟨rfl, .inl ⟨rfl, .inl trivial⟩⟩
          | false =>
          by_cases hn0 : 0 < ni
          · have hd1 : decide ((0 : Int) < (ni : Int)) = true := decide_eq_true (by omega)
            have hd2 : decide (0 < ni) = true := decide_eq_true hn0
            have HN := Lib.hid (show lr ≠ [] from fun e => by have := Hni.out; rw [e] at this; simp at this; omega)
            go_wp2_with fail
            go_meet
            exact ⟨rfl, .inl ⟨rfl, .inr (.inl HN.out)⟩⟩
          · obtain rfl : ni = 0 := by omega
            have HN := Lib.hid (List.eq_nil_of_length_eq_zero Hni.out)
            have hd1 : decide ((0 : Int) < ((0 : Nat) : Int)) = false := by simp
            have hd2 : decide ((0 : Int) < 0) = false := by simp
            have SR := refRegion_any a0.1 W8
            by_cases hrg : 3 ≤ a0.1 ∧ a0.1 ≤ 8
            · rw [decide_eq_true hrg] at SR
              have hrg := Lib.hid hrg
              by_cases hqk : q.1 = (os.length : Int)
              · have hne : (q.1 != (os.length : Int)) = false := by simp [hqk]
                have Hqk := Lib.hid hqk
                clear hqk
                go_wp2_with fail
                refine SR.mono ?_
                rintro e wz ⟨rfl, rfl⟩
                go_wp2_with fail
                go_meet
                exact ⟨rfl, .inr ⟨rfl, trivial, HN.out, hrg.out, by rw [Hqk.out, hol.out]⟩⟩
              · have hne : (q.1 != (os.length : Int)) = true := by simp [hqk]
                have Hqk := Lib.hid hqk
                clear hqk
                go_wp2_with fail
                refine SR.mono ?_
                rintro e wz ⟨rfl, rfl⟩
                go_wp2_with fail
                go_meet
                exact ⟨rfl, .inl ⟨rfl, .inr (.inr (.inr (by rw [← hol.out]; exact Hqk.out)))⟩⟩
            · rw [decide_eq_false hrg] at SR
              have hrg := Lib.hid hrg
              go_wp2_with fail
              refine SR.mono ?_
              rintro e wz ⟨rfl, rfl⟩
              go_wp2_with fail
              go_meet
              exact ⟨rfl, .inl ⟨rfl, .inr (.inr (.inl hrg.out))⟩⟩
        case rest =>
          obtain ⟨hwd, hcases⟩ := hcut
          subst hwd
          obtain ⟨p0, p1, p2, p3, p4, p5, p6, p7⟩ := (show Whole _ _ _ [.int .i64 0, .slice none 0 0, .int .i64 0, .int .i64 0, .int .i64 0, .int .i64 0, .int .i64 0, .slice none 0 0] from HM.out.res).eight
          have pf := HM.out.res.free
          rcases hcases with ⟨rfl, hR⟩ | ⟨rfl, hb0, hl0, hrg, hqk⟩
          · have HG := Lib.hid (show GetsH b none from HD.out.none_ Hkq.out (by rw [HP.out]; exact HE.out) (by rw [HP.out]; exact hR))
            have KF := (((((((HM.out.res.set 0 (.int .i64 0)).set 1 (.slice none 0 0)).set 2 (.int .i64 0)).set 3 (.int .i64 0)).set 4 (.int .i64 0)).set 5 (.int .i64 0)).set 6 (.int .i64 0)).set 7 (.slice none 0 0)
            have gs := grown_set8 wc w.heap.size (.int .i64 0) (.slice none 0 0) (.int .i64 0) (.int .i64 0) (.int .i64 0) (.int .i64 0) (.int .i64 0) (.slice none 0 0)
            have B8 := HM.out.inr.bel
            have HF := Lib.hid (And.intro KF (below_grown B8 gs B8.size (Nat.le_refl _)))
            clear x0 x1 y0 y1 KF gs B8 hR
            go_wp2
            refine bodyPost_ret (results_c2 rfl _ _ _ _ rfl HF.out.1 Tryz.underlying26 (by kernel_rfl)) rfl ?_
            exact ⟨HF.out.2, .inr ⟨rfl, HG.out⟩⟩
          · subst hb0 hl0
            have HPr := Lib.hid (show praw (fun _ _ => true) b = some (⟨a0.1, os.map (·.1), a1.1, [t0, t1, t2, t3], []⟩, []) from by
              have h1 := HD.out.some_ (k := k) (r := []) (by rw [HP.out]) hqk
              rw [HP.out] at h1
              exact h1)
            have hrd := HW.out.rd
            obtain ⟨Ar, cr, er, rdo⟩ := hrd
            injection er with er1 er2 er3
            subst er1
            clear er2 er3
            have hokD := Lib.hid (show ∀ x ∈ os.map (·.1), BlkOk x from fun x hx => by
              obtain ⟨d, _⟩ := (praw_codec _).sound _ _ _ HPr.out
              obtain ⟨d1, d2, d3, d4, d5, d6, d7⟩ := d.2.2.2.2.2.1 x hx
              have hn := needI_bd x.ws.length x.ls.length
              refine ⟨d2.1, d2.2, ?_, by rw [d3]; omega⟩
              rw [d3]
              unfold needI
              rw [if_pos ⟨by omega, by omega, by omega, by omega⟩]
              repeat (split; · omega)
              omega)
            have SF := free_any a0.1 Ao os.length co (os.map (·.1)) wc rdo (by have := hol.out; have := Hk7.out; omega) hrg hokD.out
            clear x0 x1 p0 p1 p2 p3 p4 p5 p6 p7 pf hqk
            go_wp2_with fail
            refine SF.mono ?_
            rintro e w6 ⟨vF, G, rfl, oF, b6, lG, uG⟩
            obtain ⟨AF, cF, rfl, _, _, _, _⟩ := oF.shape rfl
            have N6 := HM.out.other (grown_below b6 none) (fun z e => by cases e)
            have W6 := HW.out.below b6
            have gs := grown_set w6 (w.heap.size + 2) 7 (.slice AF G.length cF)
            have y7 : w6.cell? ⟨w.heap.size + 2, 7, none⟩ = some (.slice none 0 0) := N6.hb.cell 7
            have z7 := N6.hb.free 7
            have N7 := N6.set 7 (.slice AF G.length cF)
            simp only [List.set_cons_zero, List.set_cons_succ] at N7
            have hlo := HM.out.hb.lt
            have O7 : OwnHp (w6.setCell ⟨w.heap.size + 2, 7, none⟩ (.slice AF G.length cF)) (w.heap.size + 3) ⟨Ao, os.length, co, AF, G.length, cF⟩ os ⟨a0.1, os.map (·.1), a1.1, [t0, t1, t2, t3], G⟩ :=
              ⟨W6.grown gs (fun z hz e => by have := (W6.row_lt z hz).1; injection e with e; omega) (fun z hz e => by have := (W6.lt z hz).1; injection e with e; omega), rfl, (oF.grown gs (fun z hz e => by have := (oF.lt z hz).1; injection e with e; omega)).mono (by omega), rfl, by have := nn.out.2; simp only; omega⟩
            have HN7 := Lib.hid N7
            have HO7 := Lib.hid O7
            have HuG := Lib.hid uG
            have HlG := Lib.hid lG
            clear SF y0 y1 N6 W6 gs N7 O7 oF b6 uG lG rdo
            go_upto_region 18 with (fail)
            generalize w6.setCell ⟨w.heap.size + 2, 7, none⟩ (.slice AF G.length cF) = W7 at HN7 HO7 ⊢
            clear y7 z7
            have SR := refRightH_any ⟨Ao, os.length, co, AF, G.length, cF⟩ ⟨a0.1, os.map (·.1), a1.1, [t0, t1, t2, t3], G⟩ W7 HO7.out.rd (gh_small HP.out Hk7.out HlG.out)
            simp only [hval, hcs, tget, List.getD_cons_zero, List.getD_cons_succ] at SR
            obtain ⟨e0, e1, e2, e3, e4, e5, e6, e7⟩ := HN7.out.hb.eight
            by_cases hRt : RightH ⟨a0.1, os.map (·.1), a1.1, [t0, t1, t2, t3], G⟩
            · rw [decide_eq_true hRt] at SR
              have HG := Lib.hid (gets_some HPr.out hRt)
              clear hRt
              go_wp2_with fail
              refine SR.mono ?_
              rintro e w9 ⟨rfl, b9⟩
              have N9 := HN7.out.other (grown_below b9 none) (fun z e => by cases e)
              have O9 := HO7.out.below b9
              clear SR e0 e1 e2 e3 e4 e5 e6 e7
              obtain ⟨e0, e1, e2, e3, e4, e5, e6, e7⟩ := N9.hb.eight
              obtain ⟨p0, p1, p2, p3, p4, p5, p6, p7⟩ := (show Whole _ _ _ [.int .i64 0, .slice none 0 0, .int .i64 0, .int .i64 0, .int .i64 0, .int .i64 0, .int .i64 0, .slice none 0 0] from N9.res).eight
              have pf := N9.res.free
              have KF := (((((((N9.res.set 0 (.int .i64 a0.1)).set 1 (.slice Ao os.length co)).set 2 (.int .i64 a1.1)).set 3 (.int .i64 t0)).set 4 (.int .i64 t1)).set 5 (.int .i64 t2)).set 6 (.int .i64 t3)).set 7 (.slice AF G.length cF)
              have gs := grown_set8 w9 w.heap.size (.int .i64 a0.1) (.slice Ao os.length co) (.int .i64 a1.1) (.int .i64 t0) (.int .i64 t1) (.int .i64 t2) (.int .i64 t3) (.slice AF G.length cF)
              have B9 := N9.inr.bel
              have HF := Lib.hid (And.intro KF (And.intro (below_grown B9 gs B9.size (Nat.le_refl _)) ((O9.grownI gs (by omega)).mono (base' := w.heap.size) (by omega))))
              clear KF gs B9 O9 N9 b9
              go_wp2
              refine bodyPost_ret (results_c2 rfl _ _ _ _ rfl HF.out.1 Tryz.underlying26 (by kernel_rfl)) rfl ?_
              exact ⟨HF.out.2.1, .inl ⟨⟨a0.1, os.map (·.1), a1.1, [t0, t1, t2, t3], G⟩, ⟨Ao, os.length, co, AF, G.length, cF⟩, os, rfl, HF.out.2.2, HG.out⟩⟩
            · rw [decide_eq_false hRt] at SR
              have HG := Lib.hid (show GetsH b none from gets_none3 (g := fun _ _ => true) (fun _ _ => rfl) HPr.out fun F hF => hRt (by
                have h1 := HuG.out F hF.freeOf
                rw [h1]
                exact hF))
              clear hRt
              go_wp2_with fail
              refine SR.mono ?_
              rintro e w9 ⟨rfl, b9⟩
              have N9 := HN7.out.other (grown_below b9 none) (fun z e => by cases e)
              clear SR e0 e1 e2 e3 e4 e5 e6 e7
              obtain ⟨p0, p1, p2, p3, p4, p5, p6, p7⟩ := (show Whole _ _ _ [.int .i64 0, .slice none 0 0, .int .i64 0, .int .i64 0, .int .i64 0, .int .i64 0, .int .i64 0, .slice none 0 0] from N9.res).eight
              have pf := N9.res.free
              have KF := (((((((N9.res.set 0 (.int .i64 0)).set 1 (.slice none 0 0)).set 2 (.int .i64 0)).set 3 (.int .i64 0)).set 4 (.int .i64 0)).set 5 (.int .i64 0)).set 6 (.int .i64 0)).set 7 (.slice none 0 0)
              have gs := grown_set8 w9 w.heap.size (.int .i64 0) (.slice none 0 0) (.int .i64 0) (.int .i64 0) (.int .i64 0) (.int .i64 0) (.int .i64 0) (.slice none 0 0)
              have B9 := N9.inr.bel
              have HF := Lib.hid (And.intro KF (below_grown B9 gs B9.size (Nat.le_refl _)))
              clear KF gs B9 N9 b9
              go_wp2
              refine bodyPost_ret (results_c2 rfl _ _ _ _ rfl HF.out.1 Tryz.underlying26 (by kernel_rfl)) rfl ?_
              exact ⟨HF.out.2, .inr ⟨rfl, HG.out⟩⟩
end Go.Proofs.YtlnmmklpccppmaaGreatDoor
