/-
  The document's reader reads an object: the contract.
-/
import Derived.Test.YtlnmmklpccppmaaGreatDoorSg55
import Derived.Test.YtlnmmklpccppmaaGreatDoorSg14
import Derived.Test.YtlnmmklpccppmaaGreatDoorSg16
import Derived.Test.YtlnmmklpccppmaaGreatDoorSg17
namespace Go.Proofs.YtlnmmklpccppmaaGreatDoor
open Go.RowKit
/-- What the document's reading of an object does. -/
def ObjP (w0 w : World) (g : Nat) (q : Ob × InS) (e : Ending) (w' : World) : Prop :=
  ∃ s : OSl, e = .returned (.agg (oc (q.1, s)).toArray) ∧ w.grownBy w' (some g) ∧ InR w0 w' g q.2 ∧ OwnV 3 w' w.heap.size s.wv (ivs q.1.ws) ∧ OwnV 3 w' w.heap.size s.lv (ivs q.1.ls) ∧ ∀ k, s.wv.ownBlock = some k → s.lv.ownBlock ≠ some k
theorem grown_after {w W W2 : World} {r0 r : Option Nat} (h : w.grownBy W r0) (k : W.grownBy W2 r) (hr : ∀ q, r = some q → w.heap.size ≤ q) : w.grownBy W2 r0 :=
  ⟨k.os.trans h.os, k.tape.trans h.tape, k.output.trans h.output, Nat.le_trans h.size k.size, fun i hi h0 => (k.block i (Nat.lt_of_lt_of_le hi h.size) (fun e => by have := hr i e.symm; omega)).trans (h.block i hi h0)⟩
/-- The boxes of object, and the reader's. -/
structure ObM (w0 w : World) (g : Nat) (s : InS) (W : World) (cs : List Value) : Prop where
  res : Whole W w.heap.size 68 [.int .i64 0, .int .i64 0, .int .i64 0, .slice none 0 0, .slice none 0 0]
  xb : Whole W (w.heap.size + 1) 68 cs
  inr : InR w0 W g s
  gr : w.grownBy W (some g)
section
variable {w0 w W W2 : World} {g : Nat} {s s2 : InS} {cs : List Value}
theorem ObM.call (h : ObM w0 w g s W cs) (hg : g < w.heap.size) (k : W.grownBy W2 (some g)) (r : InR w0 W2 g s2) : ObM w0 w g s2 W2 cs :=
  ⟨h.res.grown k (by omega), h.xb.grown k (by omega), r, grown_trans h.gr k⟩
theorem ObM.set (h : ObM w0 w g s W cs) (hg : g < w.heap.size) (h0 : w0.heap.size ≤ w.heap.size) (j : Nat) (v : Value) : ObM w0 w g s (W.setCell ⟨w.heap.size + 1, j, none⟩ v) (cs.set j v) := by
  have gs := grown_set W (w.heap.size + 1) j v
  exact ⟨h.res.grown gs (by omega), h.xb.set j v, h.inr.grown gs (fun e => by injection e with e; omega) (fun k e => by injection e with e; omega), grown_new h.gr (by omega) j v⟩
theorem ObM.other {r : Option Nat} (h : ObM w0 w g s W cs) (hg : g < w.heap.size) (h0 : w0.heap.size ≤ w.heap.size) (k : W.grownBy W2 r) (hr : ∀ q, r = some q → w.heap.size + 2 ≤ q) : ObM w0 w g s W2 cs :=
  ⟨h.res.keep (k.block _ h.res.lt fun e => by have := hr _ e.symm; omega), h.xb.keep (k.block _ h.xb.lt fun e => by have := hr _ e.symm; omega), h.inr.grown k (fun e => by have := hr _ e.symm; omega) (fun q e => by have := hr q e; omega), grown_after h.gr k fun q e => by have := hr q e; omega⟩
theorem ObM.spoil (h : ObM w0 w g s W cs) (hg : g < w.heap.size) : ObM w0 w g (s.1, true) (W.setCell ⟨g, 1, none⟩ (.bool true)) cs := by
  have gs := grown_set W g 1 (.bool true)
  exact ⟨h.res.grown gs (by omega), h.xb.grown gs (by omega), h.inr.spoil.2.2, grown_trans h.gr gs⟩
theorem Whole.five {t : TypeId} {b : Nat} {a0 a1 a2 a3 a4 : Value} (h : Whole W b t [a0, a1, a2, a3, a4]) : W.cell? ⟨b, 0, none⟩ = some a0 ∧ W.cell? ⟨b, 1, none⟩ = some a1 ∧ W.cell? ⟨b, 2, none⟩ = some a2 ∧ W.cell? ⟨b, 3, none⟩ = some a3 ∧ W.cell? ⟨b, 4, none⟩ = some a4 :=
  ⟨h.cell 0, h.cell 1, h.cell 2, h.cell 3, h.cell 4⟩
theorem grown_set5 (w : World) (g : Nat) (a0 a1 a2 a3 a4 : Value) : w.grownBy (((((w.setCell ⟨g, 0, none⟩ a0).setCell ⟨g, 1, none⟩ a1).setCell ⟨g, 2, none⟩ a2).setCell ⟨g, 3, none⟩ a3).setCell ⟨g, 4, none⟩ a4) (some g) :=
  grown_trans (grown_trans (grown_trans (grown_trans (grown_set _ _ _ _) (grown_set _ _ _ _)) (grown_set _ _ _ _)) (grown_set _ _ _ _)) (grown_set _ _ _ _)
/-- The last step: the five cells come into the result's box. -/
theorem ObM.fin {a0 a1 a2 a3 a4 : Value} (h : ObM w0 w g s W [a0, a1, a2, a3, a4]) (hg : g < w.heap.size) (h0 : w0.heap.size ≤ w.heap.size) :
    Whole (((((W.setCell ⟨w.heap.size, 0, none⟩ a0).setCell ⟨w.heap.size, 1, none⟩ a1).setCell ⟨w.heap.size, 2, none⟩ a2).setCell ⟨w.heap.size, 3, none⟩ a3).setCell ⟨w.heap.size, 4, none⟩ a4) w.heap.size 68 [a0, a1, a2, a3, a4] ∧
    w.grownBy (((((W.setCell ⟨w.heap.size, 0, none⟩ a0).setCell ⟨w.heap.size, 1, none⟩ a1).setCell ⟨w.heap.size, 2, none⟩ a2).setCell ⟨w.heap.size, 3, none⟩ a3).setCell ⟨w.heap.size, 4, none⟩ a4) (some g) ∧
    InR w0 (((((W.setCell ⟨w.heap.size, 0, none⟩ a0).setCell ⟨w.heap.size, 1, none⟩ a1).setCell ⟨w.heap.size, 2, none⟩ a2).setCell ⟨w.heap.size, 3, none⟩ a3).setCell ⟨w.heap.size, 4, none⟩ a4) g s := by
  have gs := grown_set5 W w.heap.size a0 a1 a2 a3 a4
  exact ⟨((((h.res.set 0 a0).set 1 a1).set 2 a2).set 3 a3).set 4 a4, grown_after h.gr gs (fun q e => by injection e with e; omega), h.inr.grown gs (fun e => by injection e with e; omega) (fun q e => by injection e with e; omega)⟩
theorem OwnV.form3 {U : TypeId} {base : Nat} {v : Value} {l : List Value} (h : OwnV U w base v l) : ∃ A n c, v = .slice A n c := by
  obtain ⟨A, c, e, _⟩ := h.shape rfl
  exact ⟨A, _, c, e⟩
theorem rd_int1 (w : World) (x : Int) : RdI (w.alloc (.cells #[.int .i64 x] 3)) (some ⟨w.heap.size, 0, none⟩) 1 [x] := (Whole.new w #[.int .i64 x] 3).rd
theorem OwnV.grownO {U : TypeId} {base : Nat} {v : Value} {l : List Value} {r : Option Nat} (h : OwnV U W base v l) (hg : W.grownBy W2 r) (hne : ∀ k, v.ownBlock = some k → some k ≠ r) : OwnV U W2 base v l :=
  h.keep fun k hk => hg.block k (h.lt k hk).2 (hne k hk)
end
theorem Tryz.infoInt8 : (Tryz.prog.info? 3).map (fun i => (i.zero, i.size, i.bytes)) = some (some (.int .i64 0), 1, 8) := by kernel_rfl
/-- One integer more comes to the row's end. -/
theorem app_int {W : World} {base : Nat} {A : Option Addr} {n c : Nat} {l : List Int} (h : OwnV 3 W base (.slice A n c) (ivs l)) (x : Int) (hl : l.length ≤ 1000) (hb : base ≤ W.heap.size) :
    ∃ A' n' c' W', (Builtin.append_ #[66, 66] 66 #[.slice A n c, .slice (some ⟨W.heap.size, 0, none⟩) 1 1]).run Tryz.prog (W.alloc (.cells #[.int .i64 x] 3)) = .ok (.slice A' n' c') W' ∧
      OwnV 3 W' base (.slice A' n' c') (ivs (l ++ [x])) ∧ W.grownBy W' (Value.slice A n c).ownBlock := by
  have b1 := (Below.refl W.heap.size W).alloc (Nat.le_refl _) (.cells #[.int .i64 x] 3)
  obtain ⟨v', W', hrun, o2, g2, _⟩ := run_appI (P := Tryz.prog) base 66 66 3 Tryz.underlying66 Tryz.infoInt8 rfl _ l (h.below b1) _ 1 1 [x] (rd_int1 W x) (by omega) (Nat.le_trans hb b1.size)
  obtain ⟨A', n', c', rfl⟩ := o2.form3
  exact ⟨A', n', c', W', hrun, o2, grown_trans (grown_below b1 _) g2⟩
def L1 (w0 w : World) (g : Nat) (s : InS) (N : Nat) (a b o : Int) (i : Value) (wr : World) : Prop :=
  ∃ (k : Nat) (A : Option Addr) (n c : Nat), k ≤ N ∧ i = .int .i64 (k : Int) ∧ ObM w0 w g (rep (nx pint) k s).2 wr [.int .i64 a, .int .i64 b, .int .i64 o, .slice A n c, .slice none 0 0] ∧ OwnV 3 wr (w.heap.size + 2) (.slice A n c) (ivs (rep (nx pint) k s).1)
def L2 (w0 w : World) (g : Nat) (s : InS) (N : Nat) (a b o : Int) (A : Option Addr) (n c : Nat) (ws : List Int) (base : Nat) (i : Value) (wr : World) : Prop :=
  ∃ (k : Nat) (A2 : Option Addr) (n2 c2 : Nat), k ≤ N ∧ i = .int .i64 (k : Int) ∧ ObM w0 w g (rep (nx pnum) k s).2 wr [.int .i64 a, .int .i64 b, .int .i64 o, .slice A n c, .slice A2 n2 c2] ∧ OwnV 3 wr (w.heap.size + 2) (.slice A n c) (ivs ws) ∧ OwnV 3 wr base (.slice A2 n2 c2) (ivs (rep (nx pnum) k s).1) ∧ base ≤ wr.heap.size
set_option maxRecDepth 20000 in
set_option maxHeartbeats 4000000 in
theorem inObject_any (g : Nat) (s : InS) (w0 w : World) (h : InR w0 w g s) :
    Calls Tryz.prog 57 #[.pointer (some ⟨g, 0, none⟩)] w (ObjP w0 w g (iobj s)) := by
  have hg := h.lt
  have hw0 := h.bel.size
  have HI := Lib.hid h
  clear h
  obtain ⟨a, ha⟩ : ∃ a, a = nx pnum s := ⟨_, rfl⟩
  obtain ⟨b, hb⟩ : ∃ b, b = nx pnum a.2 := ⟨_, rfl⟩
  obtain ⟨c, hc⟩ : ∃ c, c = nx pnum b.2 := ⟨_, rfl⟩
  obtain ⟨d, hd⟩ : ∃ d, d = nx pnum c.2 := ⟨_, rfl⟩
  have HQ := Lib.hid (show iobj s = iobj2 a.1 b.1 c.1 d.1 d.2 from by unfold iobj; rw [← ha, ← hb, ← hc, ← hd])
  have nc := Lib.hid (show IsNum c.1 from by rw [hc]; exact nx_num _)
  have nd := Lib.hid (show IsNum d.1 from by rw [hd]; exact nx_num _)
  have S1 := fun W (r : InR w0 W g s) => inNumber_any g s w0 W r
  have S2 := fun W (r : InR w0 W g a.2) => inNumber_any g a.2 w0 W r
  have S3 := fun W (r : InR w0 W g b.2) => inNumber_any g b.2 w0 W r
  have S4 := fun W (r : InR w0 W g c.2) => inNumber_any g c.2 w0 W r
  rw [← ha] at S1
  rw [← hb] at S2
  rw [← hc] at S3
  rw [← hd] at S4
  clear ha hb hc hd
  go_enter Tryz.func57, Tryz.ntmps57
  go_upto_region 2 with (fail)
  have M0 : ObM w0 w g s ((w.alloc (.cells #[.int .i64 0, .int .i64 0, .int .i64 0, .slice none 0 0, .slice none 0 0] 68)).alloc (.cells #[.int .i64 0, .int .i64 0, .int .i64 0, .slice none 0 0, .slice none 0 0] 68)) [.int .i64 0, .int .i64 0, .int .i64 0, .slice none 0 0, .slice none 0 0] := by
    have KO := Whole.new (w.alloc (.cells #[.int .i64 0, .int .i64 0, .int .i64 0, .slice none 0 0, .slice none 0 0] 68)) #[.int .i64 0, .int .i64 0, .int .i64 0, .slice none 0 0, .slice none 0 0] 68
    rw [show (w.alloc (.cells #[.int .i64 0, .int .i64 0, .int .i64 0, .slice none 0 0, .slice none 0 0] 68)).heap.size = w.heap.size + 1 by simp] at KO
    have b2 := ((Below.refl w.heap.size w).alloc (Nat.le_refl _) (.cells #[.int .i64 0, .int .i64 0, .int .i64 0, .slice none 0 0, .slice none 0 0] 68)).alloc (by simp) (.cells #[.int .i64 0, .int .i64 0, .int .i64 0, .slice none 0 0, .slice none 0 0] 68)
    exact ⟨(Whole.new w #[.int .i64 0, .int .i64 0, .int .i64 0, .slice none 0 0, .slice none 0 0] 68).alloc _, KO, HI.out.below b2, grown_below b2 _⟩
  generalize (w.alloc (.cells #[.int .i64 0, .int .i64 0, .int .i64 0, .slice none 0 0, .slice none 0 0] 68)).alloc (.cells #[.int .i64 0, .int .i64 0, .int .i64 0, .slice none 0 0, .slice none 0 0] 68) = W at M0 ⊢
  have M0 := Lib.hid M0
  clear HI
  go_wp2_with fail
  refine (S1 W M0.out.inr).mono ?_
  rintro e w1 ⟨rfl, g1, r1⟩
  have N1 := M0.out.call hg g1 r1
  have M1 := Lib.hid (N1.set hg hw0 0 (.int .i64 a.1))
  have c0 : w1.cell? ⟨w.heap.size + 1, 0, none⟩ = some (.int .i64 0) := N1.xb.cell 0
  have z0 := N1.xb.free 0
  clear N1 g1 r1 M0 S1
  go_wp2_with fail
  generalize w1.setCell ⟨w.heap.size + 1, 0, none⟩ (.int .i64 a.1) = W1 at M1 ⊢
  clear c0 z0
  refine (S2 W1 M1.out.inr).mono ?_
  rintro e w2 ⟨rfl, g2, r2⟩
  have N2 := M1.out.call hg g2 r2
  have M2 := Lib.hid (N2.set hg hw0 1 (.int .i64 b.1))
  have c0 : w2.cell? ⟨w.heap.size + 1, 1, none⟩ = some (.int .i64 0) := N2.xb.cell 1
  have z0 := N2.xb.free 1
  clear N2 g2 r2 M1 S2
  go_wp2_with fail
  generalize w2.setCell ⟨w.heap.size + 1, 1, none⟩ (.int .i64 b.1) = W2 at M2 ⊢
  clear c0 z0
  refine (S3 W2 M2.out.inr).mono ?_
  rintro e w3 ⟨rfl, g3, r3⟩
  have M3 := Lib.hid (M2.out.call hg g3 r3)
  clear g3 r3 M2 S3
  go_wp2_with fail
  refine (S4 w3 M3.out.inr).mono ?_
  rintro e w4 ⟨rfl, g4, r4⟩
  have N4 := M3.out.call hg g4 r4
  have M4 := Lib.hid (N4.set hg hw0 2 (.int .i64 (needI c.1 d.1)))
  have c0 : w4.cell? ⟨w.heap.size + 1, 2, none⟩ = some (.int .i64 0) := N4.xb.cell 2
  have z0 := N4.xb.free 2
  clear N4 g4 r4 M3 S4
  go_wp2_with fail
  refine (refNeed_any c.1 d.1 w4).mono ?_
  rintro e w5 ⟨rfl, rfl⟩
  go_upto_region 7 with (fail)
  generalize w4.setCell ⟨w.heap.size + 1, 2, none⟩ (.int .i64 (needI c.1 d.1)) = W4 at M4 ⊢
  clear c0 z0
  simp only [List.set_cons_zero, List.set_cons_succ] at M4
  obtain ⟨o, ho⟩ : ∃ o, o = needI c.1 d.1 := ⟨_, rfl⟩
  have HO := Lib.hid ho
  rw [← ho] at M4
  clear ho
  have x2 : W4.cell? ⟨w.heap.size + 1, 2, none⟩ = some (.int .i64 o) := M4.out.xb.cell 2
  by_cases hn : o < 0
  · obtain ⟨⟨u, hu⟩, hf, _⟩ := M4.out.inr.spoil
    have M5 := Lib.hid (M4.out.spoil hg)
    have hdn : decide (o < 0) = true := decide_eq_true hn
    have HE := Lib.hid (show iobj s = (⟨a.1, (b.1, o), [], []⟩, (d.2.1, true)) from by rw [HQ.out, iobj2_no (by rw [← HO.out]; exact hn), ← HO.out])
    clear hn
    go_upto_region 9 with (fail)
    generalize W4.setCell ⟨g, 1, none⟩ (.bool true) = W5 at M5 ⊢
    clear x2 hu hf M4
    obtain ⟨y0, y1, y2, y3, y4⟩ := M5.out.xb.five
    obtain ⟨p0, p1, p2, p3, p4⟩ := M5.out.res.five
    have pf := M5.out.res.free
    have HF := Lib.hid (M5.out.fin hg hw0)
    clear M5
    go_wp2
    refine bodyPost_ret (results_c1 rfl _ _ _ _ rfl HF.out.1 Tryz.underlying68 (by kernel_rfl)) rfl ?_
    rw [HE.out]
    exact ⟨⟨.slice none 0 0, .slice none 0 0⟩, rfl, HF.out.2.1, HF.out.2.2, OwnV.nil, OwnV.nil, fun k hk => by cases hk⟩
  have hdn : decide (o < 0) = false := decide_eq_false hn
  have hi := needI_in (w := c.1) (l := d.1) (by rw [← HO.out]; omega)
  obtain ⟨N, hN⟩ : ∃ N : Nat, c.1 = (N : Int) := ⟨c.1.toNat, by omega⟩
  obtain ⟨K, hK⟩ : ∃ K : Nat, d.1 = (K : Int) := ⟨d.1.toNat, by omega⟩
  have HN := Lib.hid (show N ≤ 32 by omega)
  have HK := Lib.hid (show K ≤ 16 by omega)
  have HE := Lib.hid (show iobj s = (⟨a.1, (b.1, o), (rep (nx pint) N d.2).1, (rep (nx pnum) K (rep (nx pint) N d.2).2).1⟩, (rep (nx pnum) K (rep (nx pint) N d.2).2).2) from by
    rw [HQ.out, iobj2_yes (by rw [← HO.out]; exact hn), ← HO.out, hN, hK, Int.toNat_natCast, Int.toNat_natCast])
  rw [hN, hK]
  clear hi hN hK HQ HO nc nd hn
  go_upto_region 11 with (fail)
  clear x2
  have ST := Lib.hid (show L1 w0 w g d.2 N a.1 b.1 o (.int .i64 0) W4 from ⟨0, none, 0, 0, Nat.zero_le _, rfl, M4.out, OwnV.nil⟩)
  clear M4
  go_loopw [6] (L1 w0 w g d.2 N a.1 b.1 o) (fun i _ => N - (intOf i).toNat)
  case atStart => exact ST.out
  case round =>
    clear ST
    obtain ⟨k, A1, n1, c1, hk, rfl, hm, hown⟩ := hrel
    have HM := Lib.hid hm
    have HW := Lib.hid hown
    clear hm hown
    by_cases hlt : k < N
    · have hki : (k : Int) < (N : Int) := by omega
      have hk32 : k ≤ 32 := by have := HN.out; omega
      have S := inInt_any g (rep (nx pint) k d.2).2 w0 wr HM.out.inr
      obtain ⟨q, hq⟩ : ∃ q, q = nx pint (rep (nx pint) k d.2).2 := ⟨_, rfl⟩
      rw [← hq] at S
      have HS := Lib.hid (show rep (nx pint) (k + 1) d.2 = ((rep (nx pint) k d.2).1 ++ [q.1], q.2) from by rw [hq]; rfl)
      have hl := rep_len (f := nx pint) d.2 k
      clear hq
      go_wp2_with fail
      refine S.mono ?_
      rintro e w2 ⟨rfl, g2, r2⟩
      have N2 := HM.out.call hg g2 r2
      have O2 := HW.out.grownO g2 (fun z hz e => by have := (HW.out.lt z hz).1; injection e with e; omega)
      obtain ⟨A3, n3, c3, w3, hap, O3, g3⟩ := app_int O2 q.1 (by have := HN.out; omega) (by have := N2.xb.lt; omega)
      have N3 := N2.other hg hw0 g3 (fun z hz => (O2.lt z hz).1)
      have y3 : w2.cell? ⟨w.heap.size + 1, 3, none⟩ = some (.slice A1 n1 c1) := N2.xb.cell 3
      have x3 : w3.cell? ⟨w.heap.size + 1, 3, none⟩ = some (.slice A1 n1 c1) := N3.xb.cell 3
      have z3 := N3.xb.free 3
      have M4 := Lib.hid (N3.set hg hw0 3 (.slice A3 n3 c3))
      have O4 := Lib.hid (O3.grownO (grown_set w3 (w.heap.size + 1) 3 (.slice A3 n3 c3)) (fun z hz e => by have := (O3.lt z hz).1; injection e with e; omega))
      simp only [List.set_cons_zero, List.set_cons_succ] at M4
      clear S N2 N3 O2 O3 g2 g3 r2 hl
      go_wp2_with (at_builtin; refine wpList_append_run hap rfl _ _ rfl rfl rfl rfl ?_)
      go_roundw
      case rel => exact ⟨k + 1, A3, n3, c3, by omega, by go_num, by rw [HS.out]; exact M4.out, by rw [HS.out]; exact O4.out⟩
      case measure => simp [intOf]; omega
    · obtain rfl : k = N := by omega
      obtain ⟨s2, hs2⟩ : ∃ s2, s2 = (rep (nx pint) k d.2).2 := ⟨_, rfl⟩
      obtain ⟨ws, hws⟩ : ∃ ws, ws = (rep (nx pint) k d.2).1 := ⟨_, rfl⟩
      rw [← hs2] at HE HM
      rw [← hws] at HE HW
      obtain ⟨B2, hB2⟩ : ∃ B2, B2 = wr.heap.size := ⟨_, rfl⟩
      have Hsep := Lib.hid (show ∀ z, (Value.slice A1 n1 c1).ownBlock = some z → z < B2 from fun z hz => by rw [hB2]; exact (HW.out.lt z hz).2)
      have HB2 := Lib.hid (show w.heap.size + 2 ≤ B2 from by rw [hB2]; have := HM.out.xb.lt; omega)
      have ST := Lib.hid (show L2 w0 w g s2 K a.1 b.1 o A1 n1 c1 ws B2 (.int .i64 0) wr from ⟨0, none, 0, 0, Nat.zero_le _, rfl, HM.out, HW.out, OwnV.nil, Nat.le_of_eq hB2⟩)
      have HB3 := Lib.hid (show B2 ≤ wr.heap.size from Nat.le_of_eq hB2)
      clear hs2 hws hB2 HM HW
      go_upto_region 16 with (fail)
      go_loopw [8] (L2 w0 w g s2 K a.1 b.1 o A1 n1 c1 ws B2) (fun i _ => K - (intOf i).toNat)
      case atStart => exact ST.out
      case round =>
        clear ST HB3
        obtain ⟨j, A2, n2, c2, hj, rfl, hm, hown, hown2, hbs⟩ := hrel
        have HM := Lib.hid hm
        have HW := Lib.hid hown
        have HL := Lib.hid hown2
        clear hm hown hown2
        by_cases hlt2 : j < K
        · have hji : (j : Int) < (K : Int) := by omega
          have hj16 : j ≤ 16 := by have := HK.out; omega
          have S := inNumber_any g (rep (nx pnum) j s2).2 w0 wr HM.out.inr
          obtain ⟨q, hq⟩ : ∃ q, q = nx pnum (rep (nx pnum) j s2).2 := ⟨_, rfl⟩
          rw [← hq] at S
          have HS := Lib.hid (show rep (nx pnum) (j + 1) s2 = ((rep (nx pnum) j s2).1 ++ [q.1], q.2) from by rw [hq]; rfl)
          have hl := rep_len (f := nx pnum) s2 j
          clear hq
          go_wp2_with fail
          refine S.mono ?_
          rintro e w2 ⟨rfl, g2, r2⟩
          have N2 := HM.out.call hg g2 r2
          have O2 := HL.out.grownO g2 (fun z hz e => by have := (HL.out.lt z hz).1; have := HB2.out; injection e with e; omega)
          have P2 := HW.out.grownO g2 (fun z hz e => by have := (HW.out.lt z hz).1; injection e with e; omega)
          have hs2 : B2 ≤ w2.heap.size := Nat.le_trans hbs g2.size
          obtain ⟨A3, n3, c3, w3, hap, O3, g3⟩ := app_int O2 q.1 (by have := HK.out; omega) hs2
          have N3 := N2.other hg hw0 g3 (fun z hz => by have := (O2.lt z hz).1; have := HB2.out; omega)
          have P3 := P2.grownO g3 (fun z hz e => by have := Hsep.out z hz; have := (O2.lt z e.symm).1; omega)
          have y3 : w2.cell? ⟨w.heap.size + 1, 4, none⟩ = some (.slice A2 n2 c2) := N2.xb.cell 4
          have x3 : w3.cell? ⟨w.heap.size + 1, 4, none⟩ = some (.slice A2 n2 c2) := N3.xb.cell 4
          have z3 := N3.xb.free 4
          have M4 := Lib.hid (N3.set hg hw0 4 (.slice A3 n3 c3))
          have O4 := Lib.hid (O3.grownO (grown_set w3 (w.heap.size + 1) 4 (.slice A3 n3 c3)) (fun z hz e => by have := (O3.lt z hz).1; have := HB2.out; injection e with e; omega))
          have P4 := Lib.hid (P3.grownO (grown_set w3 (w.heap.size + 1) 4 (.slice A3 n3 c3)) (fun z hz e => by have := (P3.lt z hz).1; injection e with e; omega))
          simp only [List.set_cons_zero, List.set_cons_succ] at M4
          have hs4 : B2 ≤ (w3.setCell ⟨w.heap.size + 1, 4, none⟩ (.slice A3 n3 c3)).heap.size := Nat.le_trans hs2 (Nat.le_trans g3.size (grown_set w3 (w.heap.size + 1) 4 (.slice A3 n3 c3)).size)
          have Hs4 := Lib.hid hs4
          clear S N2 N3 O2 O3 P2 P3 g2 g3 r2 hl hs2 hs4 hbs
          go_wp2_with (at_builtin; refine wpList_append_run hap rfl _ _ rfl rfl rfl rfl ?_)
          go_roundw
          case rel => exact ⟨j + 1, A3, n3, c3, by omega, by go_num, by rw [HS.out]; exact M4.out, P4.out, by rw [HS.out]; exact O4.out, Hs4.out⟩
          case measure => simp [intOf]; omega
        · obtain rfl : j = K := by omega
          obtain ⟨y0, y1, y2, y3, y4⟩ := HM.out.xb.five
          obtain ⟨p0, p1, p2, p3, p4⟩ := HM.out.res.five
          have pf := HM.out.res.free
          have HF := Lib.hid (HM.out.fin hg hw0)
          have gs := grown_set5 wr w.heap.size (.int .i64 a.1) (.int .i64 b.1) (.int .i64 o) (.slice A1 n1 c1) (.slice A2 n2 c2)
          have P4 := Lib.hid (HW.out.grownO gs (fun z hz e => by have := (HW.out.lt z hz).1; injection e with e; omega))
          have O4 := Lib.hid (HL.out.grownO gs (fun z hz e => by have := (HL.out.lt z hz).1; have := HB2.out; injection e with e; omega))
          clear gs
          go_wp2
          refine bodyPost_ret (results_c1 rfl _ _ _ _ rfl HF.out.1 Tryz.underlying68 (by kernel_rfl)) rfl ?_
          rw [HE.out]
          exact ⟨⟨.slice A1 n1 c1, .slice A2 n2 c2⟩, rfl, HF.out.2.1, HF.out.2.2, P4.out.mono (by omega), O4.out.mono (by have := HB2.out; omega), fun z hz e => by have := Hsep.out z hz; have := (O4.out.lt z e).1; omega⟩
end Go.Proofs.YtlnmmklpccppmaaGreatDoor
