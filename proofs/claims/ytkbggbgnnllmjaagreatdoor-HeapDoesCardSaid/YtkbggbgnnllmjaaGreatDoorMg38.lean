/-
  What the document makes of a heap by an operation: contract; the law HeapDoes, walked.
  The law HeapDoes, walked.
-/
import Derived.Test.YtkbggbgnnllmjaaGreatDoorMg37
import Derived.Test.YtkbggbgnnllmjaaGreatDoorMg30
import Derived.Test.YtkbggbgnnllmjaaGreatDoorMg18
namespace Go.Proofs.YtkbggbgnnllmjaaGreatDoor
open Go.RowKit

theorem bel_chain {B : Nat} {w V W : World} (h : Below w.heap.size w V) (hb : B ≤ w.heap.size) (b : Below B V W) : Below B w W := (h.mono hb).trans b
theorem doneH_other {h : Hp} {o : Opn} (h1 : ¬ o.k = 1) (ho : ¬ isObj o.k) (ht : ¬ (o.k = 5 ∨ o.k = 8)) : doneH h o = (h, 54, 0) := by
  unfold doneH
  rw [if_neg h1, if_neg ho, if_neg ht]
/-- Both results are stored. -/
theorem fin_two {w3 : World} {base p q : Nat} {s : HSl} {os : List (Ob × OSl)} {H' : Hp} {rc rv : Int} (KR : Whole w3 p 26 zcs) (KQ : Whole w3 q 34 rcs) (hne : p ≠ q) (O : OwnHp w3 base s os H') :
    Whole (set2 (set8 w3 p H' s) q rc rv) p 26 (hcs H' s) ∧ Whole (set2 (set8 w3 p H' s) q rc rv) q 34 [.int .i64 rc, .int .i64 rv] ∧ OwnHp (set2 (set8 w3 p H' s) q rc rv) base s os H' ∧ ∀ (b : Nat) (w : World), Below b w w3 → b ≤ w.heap.size → b ≤ p → b ≤ q → Below b w (set2 (set8 w3 p H' s) q rc rv) := by
  obtain ⟨k1, g1⟩ := set8_is (H := H') (s := s) KR
  have KQ1 := KQ.grown g1 (fun e => hne e.symm)
  have O1 := O.otherT KR (by decide) (by decide) (by decide) g1
  obtain ⟨k2, g2⟩ := set2_is (rc := rc) (rv := rv) KQ1
  exact ⟨k1.grown g2 hne, k2, O1.otherT KQ1 (by decide) (by decide) (by decide) g2, fun b w bl hb h1 h2 => below_grown (below_grown bl g1 (Nat.le_trans hb bl.size) h1) g2 (Nat.le_trans hb (Nat.le_trans bl.size g1.size)) h2⟩
/-- Memory of a function that takes a heap and an operation, where the heap's box turns. -/
theorem FnMem.turn {w W : World} {hc oc hc' : List Value} (M : FnMem w hc oc W) {W' : World} (g : W.grownBy W' (some w.heap.size)) (K : Whole W' w.heap.size 26 hc') : FnMem w hc' oc W' :=
  ⟨K, M.ko.grown g (by omega), M.kr.grown g (by omega), M.kq.grown g (by omega), below_grown M.bel g M.bel.size (Nat.le_refl _)⟩

set_option maxRecDepth 100000 in
set_option maxHeartbeats 4000000 in
theorem refDone_any (s : HSl) (H : Hp) (o : Opn) (w : World) (h : RdH w s H) (hR : RightH H) :
    Calls Tryz.prog 38 #[hval H s, opv o] w (InPost w w.heap.size (doneH H o)) := by
  have M := FnMem.start w (hcs H s) (opcs o)
  have HH := Lib.hid h
  have HR := Lib.hid hR
  have HS := Lib.hid (right_small hR)
  obtain ⟨A, n, c, F, m, d⟩ := s
  clear h hR
  obtain ⟨r, hr⟩ : ∃ r, r = doneH H o := ⟨_, rfl⟩
  rw [← hr]
  have Hr := Lib.hid hr
  obtain ⟨ok, oh, oi, on, okk, ov, ot⟩ := o
  clear hr
  simp only [hval, hcs, opv, opcs, zcs, rcs] at *
  go_enter Tryz.func38, Tryz.ntmps38
  go_upto_region 1 with (fail)
  generalize (((w.alloc (.cells _ 26)).alloc (.cells _ 29)).alloc (.cells _ 26)).alloc (.cells _ 34) = W at M ⊢
  obtain ⟨k0, k1, k2, k3, k4, k5, k6, k7⟩ := M.kh.eight
  have S1 := refOwnH_any ⟨A, n, c, F, m, d⟩ H W (HH.out.below M.bel) HS.out
  simp only [hval, hcs] at S1
  have HM := Lib.hid M
  clear M
  go_upto_region 2 with (go_at_call 12; refine S1.mono ?_; rintro e w2 ⟨⟨A2, n2, c2, F2, m2, d2⟩, os, rfl, O2, b2⟩; simp only [hval, hcs]; have M2 := HM.out.below b2; obtain ⟨k0, k1, k2, k3, k4, k5, k6, k7⟩ := M2.kh.eight; have kf := M2.kh.free)
  clear S1
  have hbase : w.heap.size + 1 + 1 + 1 < W.heap.size := HM.out.kq.lt
  obtain ⟨q8, g8⟩ := set8_any (H := H) (s := ⟨A2, n2, c2, F2, m2, d2⟩) M2.kh
  have M3 := M2.turn g8 q8
  have O3 := O2.other M2.kh g8
  have hb3 : W.heap.size ≤ (set8 w2 w.heap.size H ⟨A2, n2, c2, F2, m2, d2⟩).heap.size := Nat.le_trans b2.size g8.size
  unfold set8 at M3 O3 hb3
  simp only at M3 O3 hb3
  clear k0 k1 k2 k3 k4 k5 k6 k7 kf M2 O2 b2 q8 g8
  generalize ((((((((w2.setCell ⟨w.heap.size, 0, none⟩ _).setCell ⟨w.heap.size, 1, none⟩ _).setCell ⟨w.heap.size, 2, none⟩ _).setCell ⟨w.heap.size, 3, none⟩ _).setCell ⟨w.heap.size, 4, none⟩ _).setCell ⟨w.heap.size, 5, none⟩ _).setCell ⟨w.heap.size, 6, none⟩ _).setCell ⟨w.heap.size, 7, none⟩ _) = W3 at M3 O3 hb3 ⊢
  obtain ⟨B, hB⟩ : ∃ B, B = W.heap.size := ⟨_, rfl⟩
  rw [← hB] at O3 hb3 hbase
  clear HM hB
  have hn2 : n2 ≤ 1000 := by have h1 := O3.rd.obs.len; have h2 := HR.out.len; simp only at h1; omega
  have hm2 : m2 ≤ 1000 := by have h1 := O3.rd.fr.len; have h2 := HR.out.fr.len256; simp only at h1; omega
  simp only [hcs] at M3
  obtain ⟨k0, k1, k2, k3, k4, k5, k6, k7⟩ := M3.kh.eight
  obtain ⟨p0, p1, p2, p3, p4, p5, p6⟩ := M3.ko.seven
  have HM3 := Lib.hid M3
  have HO3 := Lib.hid O3
  have HF := Lib.hid fun (w4 : World) (s' : HSl) (os' : List (Ob × OSl)) (O4 : OwnHp w4 B s' os' r.1) (b4 : Below B W3 w4) => (by
    have M4 := HM3.out
    have kr := M4.kr.keep (b4.block _ (by omega))
    have kq := M4.kq.keep (b4.block _ (by omega))
    have hf := fin_two (rc := r.2.1) (rv := r.2.2) kr kq (by omega) O4
    have hbW : Below w.heap.size w w4 := M4.bel.trans (b4.mono (by omega))
    exact ⟨kr, kq, hf.1, hf.2.1, hf.2.2.1, hf.2.2.2 _ _ hbW (Nat.le_refl _) (by omega) (by omega)⟩ : Whole w4 (w.heap.size + 1 + 1) 26 zcs ∧ Whole w4 (w.heap.size + 1 + 1 + 1) 34 rcs ∧ Whole (set2 (set8 w4 (w.heap.size + 1 + 1) r.1 s') (w.heap.size + 1 + 1 + 1) r.2.1 r.2.2) (w.heap.size + 1 + 1) 26 (hcs r.1 s') ∧ Whole (set2 (set8 w4 (w.heap.size + 1 + 1) r.1 s') (w.heap.size + 1 + 1 + 1) r.2.1 r.2.2) (w.heap.size + 1 + 1 + 1) 34 [.int .i64 r.2.1, .int .i64 r.2.2] ∧ OwnHp (set2 (set8 w4 (w.heap.size + 1 + 1) r.1 s') (w.heap.size + 1 + 1 + 1) r.2.1 r.2.2) B s' os' r.1 ∧ Below w.heap.size w (set2 (set8 w4 (w.heap.size + 1 + 1) r.1 s') (w.heap.size + 1 + 1 + 1) r.2.1 r.2.2))
  clear M3 O3
  by_cases h1 : ok = 1
  · subst h1
    have S := refAlloc_any ⟨A2, n2, c2, F2, m2, d2⟩ os H ⟨1, oh, oi, on, okk, ov, ot⟩ W3 B HO3.out hb3 HR.out hn2 hm2
    rw [show allocH H on okk = r by rw [Hr.out, doneH_alloc rfl]] at S
    simp only [hval, hcs, opv, opcs] at S
    obtain ⟨r1', rc, rv⟩ := r
    go_wp2_with (go_at_call 72; refine S.mono ?_; rintro e w4 ⟨⟨A4, n4, c4, F4, m4, d4⟩, os4, rfl, O4, b4⟩; simp only [hval, hcs]; have hf := HF.out w4 ⟨A4, n4, c4, F4, m4, d4⟩ os4 O4 b4; have HFF := Lib.hid hf; obtain ⟨r0, r1, r2, r3, r4, r5, r6, r7⟩ := hf.1.eight; obtain ⟨q0, q1⟩ := hf.2.1.two; have fr := hf.1.free; have fq := hf.2.1.free; unfold set2 set8 at HFF; simp only [hcs] at HFF; clear hf O4 b4)
    refine bodyPost_ret (results_two rfl _ _ (w.heap.size + 1 + 1) (w.heap.size + 1 + 1 + 1) rfl rfl HFF.out.2.2.1 HFF.out.2.2.2.1) rfl ?_
    exact ⟨⟨A4, n4, c4, F4, m4, d4⟩, os4, rfl, HFF.out.2.2.2.2.1.mono (by omega), HFF.out.2.2.2.2.2⟩
  have e1 : (ok == 1) = false := by simp [h1]
  by_cases ho : isObj ok
  · have S := Lib.hid fun (W' : World) (O' : OwnHp W' B ⟨A2, n2, c2, F2, m2, d2⟩ os H) (hb' : B ≤ W'.heap.size) => refObject_any ⟨A2, n2, c2, F2, m2, d2⟩ os H ⟨ok, oh, oi, on, okk, ov, ot⟩ W' B O' hb' HR.out hn2 hm2 ho
    rw [← Hr.out] at S
    have SP := Lib.hid fun (W' : World) (R : RdH W' ⟨A2, n2, c2, F2, m2, d2⟩ H) => refPlace_any ⟨A2, n2, c2, F2, m2, d2⟩ H oh W' R hn2
    simp only [hval, hcs, opv, opcs] at S SP
    generalize placeI H.obs oh = pl at S SP
    obtain ⟨r1', rc, rv⟩ := r
    have mkS := Lib.hid fun (W' : World) (bl : Below (w.heap.size + 1 + 1) W3 W') => (by
      obtain ⟨a0, a1, a2, a3, a4, a5, a6, a7⟩ := (HM3.out.kh.keep (bl.block _ (by omega))).eight
      obtain ⟨b0, b1, b2, b3, b4, b5, b6⟩ := (HM3.out.ko.keep (bl.block _ (by omega))).seven
      exact ⟨a0, a1, a2, a3, a4, a5, a6, a7, b0, b1, b2, b3, b4, b5, b6⟩ : W'.cell? ⟨w.heap.size, 0, none⟩ = some (.int .i64 H.od) ∧ W'.cell? ⟨w.heap.size, 1, none⟩ = some (.slice A2 n2 c2) ∧ W'.cell? ⟨w.heap.size, 2, none⟩ = some (.int .i64 H.nx) ∧ W'.cell? ⟨w.heap.size, 3, none⟩ = some (.int .i64 (tget H 0)) ∧ W'.cell? ⟨w.heap.size, 4, none⟩ = some (.int .i64 (tget H 1)) ∧ W'.cell? ⟨w.heap.size, 5, none⟩ = some (.int .i64 (tget H 2)) ∧ W'.cell? ⟨w.heap.size, 6, none⟩ = some (.int .i64 (tget H 3)) ∧ W'.cell? ⟨w.heap.size, 7, none⟩ = some (.slice F2 m2 d2) ∧ W'.cell? ⟨w.heap.size + 1, 0, none⟩ = some (.int .i64 ok) ∧ W'.cell? ⟨w.heap.size + 1, 1, none⟩ = some (.int .i64 oh) ∧ W'.cell? ⟨w.heap.size + 1, 2, none⟩ = some (.int .i64 oi) ∧ W'.cell? ⟨w.heap.size + 1, 3, none⟩ = some (.int .i64 on) ∧ W'.cell? ⟨w.heap.size + 1, 4, none⟩ = some (.int .i64 okk) ∧ W'.cell? ⟨w.heap.size + 1, 5, none⟩ = some (.int .i64 ov) ∧ W'.cell? ⟨w.heap.size + 1, 6, none⟩ = some (.int .i64 ot))
    clear k0 k1 k2 k3 k4 k5 k6 k7 p1 p2 p3 p4 p5 p6
    rcases ho with e | e | e | e | e
    · have f2 : (ok == 2) = true := by rw [e]; rfl
      clear e
      go_upto_region 10 with (fail)
      go_region_held3 (fun W' => W'.cell? ⟨w.heap.size, 0, none⟩ = some (.int .i64 H.od) ∧ W'.cell? ⟨w.heap.size, 1, none⟩ = some (.slice A2 n2 c2) ∧ W'.cell? ⟨w.heap.size, 2, none⟩ = some (.int .i64 H.nx) ∧ W'.cell? ⟨w.heap.size, 3, none⟩ = some (.int .i64 (tget H 0)) ∧ W'.cell? ⟨w.heap.size, 4, none⟩ = some (.int .i64 (tget H 1)) ∧ W'.cell? ⟨w.heap.size, 5, none⟩ = some (.int .i64 (tget H 2)) ∧ W'.cell? ⟨w.heap.size, 6, none⟩ = some (.int .i64 (tget H 3)) ∧ W'.cell? ⟨w.heap.size, 7, none⟩ = some (.slice F2 m2 d2) ∧ W'.cell? ⟨w.heap.size + 1, 0, none⟩ = some (.int .i64 ok) ∧ W'.cell? ⟨w.heap.size + 1, 1, none⟩ = some (.int .i64 oh) ∧ W'.cell? ⟨w.heap.size + 1, 2, none⟩ = some (.int .i64 oi) ∧ W'.cell? ⟨w.heap.size + 1, 3, none⟩ = some (.int .i64 on) ∧ W'.cell? ⟨w.heap.size + 1, 4, none⟩ = some (.int .i64 okk) ∧ W'.cell? ⟨w.heap.size + 1, 5, none⟩ = some (.int .i64 ov) ∧ W'.cell? ⟨w.heap.size + 1, 6, none⟩ = some (.int .i64 ot)) (((with_reducible refine mkS.out _ ?_); first | ((repeat (first | (with_reducible refine bel_alloc ?_ _) | (with_reducible refine Below.setCell ?_ (by dsimp only; first | omega | (simp; omega)) _) | (with_reducible refine Below.drew ?_))); first | (with_reducible exact Below.refl _ _) | (with_reducible exact HB6.out)) | ((repeat (first | (with_reducible refine bel_alloc ?_ _) | (with_reducible refine Below.setCell ?_ (by dsimp only; first | omega | (simp; omega)) _) | (with_reducible refine Below.drew ?_))); first | (with_reducible exact Below.refl _ _) | (with_reducible exact HB7.out)) | ((repeat (first | (with_reducible refine bel_alloc ?_ _) | (with_reducible refine Below.setCell ?_ (by dsimp only; first | omega | (simp; omega)) _) | (with_reducible refine Below.drew ?_))); first | (with_reducible exact Below.refl _ _) | (with_reducible exact trivial)))) ((first
        | (go_at_call 23; (with_reducible refine Calls.mono (SP.out _ (HO3.out.rd.below (by ((repeat (first | (with_reducible refine bel_alloc ?_ _) | (with_reducible refine Below.setCell ?_ (by dsimp only; first | omega | (simp; omega)) _) | (with_reducible refine Below.drew ?_))); first | (with_reducible exact Below.refl _ _) | (with_reducible exact trivial))))) ?_); rintro e w5 ⟨rfl, g5⟩; have HB5 := Lib.hid (bel_grew (w := W3) (by ((repeat (first | (with_reducible refine bel_alloc ?_ _) | (with_reducible refine Below.setCell ?_ (by dsimp only; first | omega | (simp; omega)) _) | (with_reducible refine Below.drew ?_))); first | (with_reducible exact Below.refl _ _) | (with_reducible exact trivial))) g5); have HB7 := Lib.hid (Below.mono (B' := w.heap.size + 1 + 1) HB5.out (by omega)); clear g5)
        | (go_at_call 73; (with_reducible refine Calls.mono (S.out _ (HO3.out.below (by ((repeat (first | (with_reducible refine bel_alloc ?_ _) | (with_reducible refine Below.setCell ?_ (by dsimp only; first | omega | (simp; omega)) _) | (with_reducible refine Below.drew ?_))); first | (with_reducible exact Below.refl _ _) | (with_reducible exact HB5.out)))) (Nat.le_trans hb3 (Below.size (by ((repeat (first | (with_reducible refine bel_alloc ?_ _) | (with_reducible refine Below.setCell ?_ (by dsimp only; first | omega | (simp; omega)) _) | (with_reducible refine Below.drew ?_))); first | (with_reducible exact Below.refl _ _) | (with_reducible exact HB5.out)))))) ?_); rintro e w4 ⟨⟨A4, n4, c4, F4, m4, d4⟩, os4, rfl, O4, b4'⟩; simp only [hval, hcs]; have b4 := bel_chain (w := W3) (by ((repeat (first | (with_reducible refine bel_alloc ?_ _) | (with_reducible refine Below.setCell ?_ (by dsimp only; first | omega | (simp; omega)) _) | (with_reducible refine Below.drew ?_))); first | (with_reducible exact Below.refl _ _) | (with_reducible exact HB5.out))) hb3 b4'; clear b4'; have HB6 := Lib.hid (Below.mono (B' := w.heap.size + 1 + 1) b4 (by omega)); have hf := HF.out w4 ⟨A4, n4, c4, F4, m4, d4⟩ os4 O4 b4; have HFF := Lib.hid hf; obtain ⟨r0, r1, r2, r3, r4, r5, r6, r7⟩ := hf.1.eight; obtain ⟨q0, q1⟩ := hf.2.1.two; have fr := hf.1.free; have fq := hf.2.1.free; unfold set2 set8 at HFF; simp only [hcs] at HFF; clear hf O4 b4)))
      all_goals
        go_wp2
        refine bodyPost_ret (results_two rfl _ _ (w.heap.size + 1 + 1) (w.heap.size + 1 + 1 + 1) rfl rfl HFF.out.2.2.1 HFF.out.2.2.2.1) rfl ?_
        exact ⟨⟨A4, n4, c4, F4, m4, d4⟩, os4, rfl, HFF.out.2.2.2.2.1.mono (by omega), HFF.out.2.2.2.2.2⟩
    · have f2 : (ok == 2) = false := by rw [e]; rfl
      have f3 : (ok == 3) = true := by rw [e]; rfl
      clear e
      go_upto_region 10 with (fail)
      go_region_held3 (fun W' => W'.cell? ⟨w.heap.size, 0, none⟩ = some (.int .i64 H.od) ∧ W'.cell? ⟨w.heap.size, 1, none⟩ = some (.slice A2 n2 c2) ∧ W'.cell? ⟨w.heap.size, 2, none⟩ = some (.int .i64 H.nx) ∧ W'.cell? ⟨w.heap.size, 3, none⟩ = some (.int .i64 (tget H 0)) ∧ W'.cell? ⟨w.heap.size, 4, none⟩ = some (.int .i64 (tget H 1)) ∧ W'.cell? ⟨w.heap.size, 5, none⟩ = some (.int .i64 (tget H 2)) ∧ W'.cell? ⟨w.heap.size, 6, none⟩ = some (.int .i64 (tget H 3)) ∧ W'.cell? ⟨w.heap.size, 7, none⟩ = some (.slice F2 m2 d2) ∧ W'.cell? ⟨w.heap.size + 1, 0, none⟩ = some (.int .i64 ok) ∧ W'.cell? ⟨w.heap.size + 1, 1, none⟩ = some (.int .i64 oh) ∧ W'.cell? ⟨w.heap.size + 1, 2, none⟩ = some (.int .i64 oi) ∧ W'.cell? ⟨w.heap.size + 1, 3, none⟩ = some (.int .i64 on) ∧ W'.cell? ⟨w.heap.size + 1, 4, none⟩ = some (.int .i64 okk) ∧ W'.cell? ⟨w.heap.size + 1, 5, none⟩ = some (.int .i64 ov) ∧ W'.cell? ⟨w.heap.size + 1, 6, none⟩ = some (.int .i64 ot)) (((with_reducible refine mkS.out _ ?_); first | ((repeat (first | (with_reducible refine bel_alloc ?_ _) | (with_reducible refine Below.setCell ?_ (by dsimp only; first | omega | (simp; omega)) _) | (with_reducible refine Below.drew ?_))); first | (with_reducible exact Below.refl _ _) | (with_reducible exact HB6.out)) | ((repeat (first | (with_reducible refine bel_alloc ?_ _) | (with_reducible refine Below.setCell ?_ (by dsimp only; first | omega | (simp; omega)) _) | (with_reducible refine Below.drew ?_))); first | (with_reducible exact Below.refl _ _) | (with_reducible exact HB7.out)) | ((repeat (first | (with_reducible refine bel_alloc ?_ _) | (with_reducible refine Below.setCell ?_ (by dsimp only; first | omega | (simp; omega)) _) | (with_reducible refine Below.drew ?_))); first | (with_reducible exact Below.refl _ _) | (with_reducible exact trivial)))) ((first
        | (go_at_call 23; (with_reducible refine Calls.mono (SP.out _ (HO3.out.rd.below (by ((repeat (first | (with_reducible refine bel_alloc ?_ _) | (with_reducible refine Below.setCell ?_ (by dsimp only; first | omega | (simp; omega)) _) | (with_reducible refine Below.drew ?_))); first | (with_reducible exact Below.refl _ _) | (with_reducible exact trivial))))) ?_); rintro e w5 ⟨rfl, g5⟩; have HB5 := Lib.hid (bel_grew (w := W3) (by ((repeat (first | (with_reducible refine bel_alloc ?_ _) | (with_reducible refine Below.setCell ?_ (by dsimp only; first | omega | (simp; omega)) _) | (with_reducible refine Below.drew ?_))); first | (with_reducible exact Below.refl _ _) | (with_reducible exact trivial))) g5); have HB7 := Lib.hid (Below.mono (B' := w.heap.size + 1 + 1) HB5.out (by omega)); clear g5)
        | (go_at_call 73; (with_reducible refine Calls.mono (S.out _ (HO3.out.below (by ((repeat (first | (with_reducible refine bel_alloc ?_ _) | (with_reducible refine Below.setCell ?_ (by dsimp only; first | omega | (simp; omega)) _) | (with_reducible refine Below.drew ?_))); first | (with_reducible exact Below.refl _ _) | (with_reducible exact HB5.out)))) (Nat.le_trans hb3 (Below.size (by ((repeat (first | (with_reducible refine bel_alloc ?_ _) | (with_reducible refine Below.setCell ?_ (by dsimp only; first | omega | (simp; omega)) _) | (with_reducible refine Below.drew ?_))); first | (with_reducible exact Below.refl _ _) | (with_reducible exact HB5.out)))))) ?_); rintro e w4 ⟨⟨A4, n4, c4, F4, m4, d4⟩, os4, rfl, O4, b4'⟩; simp only [hval, hcs]; have b4 := bel_chain (w := W3) (by ((repeat (first | (with_reducible refine bel_alloc ?_ _) | (with_reducible refine Below.setCell ?_ (by dsimp only; first | omega | (simp; omega)) _) | (with_reducible refine Below.drew ?_))); first | (with_reducible exact Below.refl _ _) | (with_reducible exact HB5.out))) hb3 b4'; clear b4'; have HB6 := Lib.hid (Below.mono (B' := w.heap.size + 1 + 1) b4 (by omega)); have hf := HF.out w4 ⟨A4, n4, c4, F4, m4, d4⟩ os4 O4 b4; have HFF := Lib.hid hf; obtain ⟨r0, r1, r2, r3, r4, r5, r6, r7⟩ := hf.1.eight; obtain ⟨q0, q1⟩ := hf.2.1.two; have fr := hf.1.free; have fq := hf.2.1.free; unfold set2 set8 at HFF; simp only [hcs] at HFF; clear hf O4 b4)))
      all_goals
        go_wp2
        refine bodyPost_ret (results_two rfl _ _ (w.heap.size + 1 + 1) (w.heap.size + 1 + 1 + 1) rfl rfl HFF.out.2.2.1 HFF.out.2.2.2.1) rfl ?_
        exact ⟨⟨A4, n4, c4, F4, m4, d4⟩, os4, rfl, HFF.out.2.2.2.2.1.mono (by omega), HFF.out.2.2.2.2.2⟩
    · have f2 : (ok == 2) = false := by rw [e]; rfl
      have f3 : (ok == 3) = false := by rw [e]; rfl
      have f4 : (ok == 4) = true := by rw [e]; rfl
      clear e
      go_upto_region 10 with (fail)
      go_region_held3 (fun W' => W'.cell? ⟨w.heap.size, 0, none⟩ = some (.int .i64 H.od) ∧ W'.cell? ⟨w.heap.size, 1, none⟩ = some (.slice A2 n2 c2) ∧ W'.cell? ⟨w.heap.size, 2, none⟩ = some (.int .i64 H.nx) ∧ W'.cell? ⟨w.heap.size, 3, none⟩ = some (.int .i64 (tget H 0)) ∧ W'.cell? ⟨w.heap.size, 4, none⟩ = some (.int .i64 (tget H 1)) ∧ W'.cell? ⟨w.heap.size, 5, none⟩ = some (.int .i64 (tget H 2)) ∧ W'.cell? ⟨w.heap.size, 6, none⟩ = some (.int .i64 (tget H 3)) ∧ W'.cell? ⟨w.heap.size, 7, none⟩ = some (.slice F2 m2 d2) ∧ W'.cell? ⟨w.heap.size + 1, 0, none⟩ = some (.int .i64 ok) ∧ W'.cell? ⟨w.heap.size + 1, 1, none⟩ = some (.int .i64 oh) ∧ W'.cell? ⟨w.heap.size + 1, 2, none⟩ = some (.int .i64 oi) ∧ W'.cell? ⟨w.heap.size + 1, 3, none⟩ = some (.int .i64 on) ∧ W'.cell? ⟨w.heap.size + 1, 4, none⟩ = some (.int .i64 okk) ∧ W'.cell? ⟨w.heap.size + 1, 5, none⟩ = some (.int .i64 ov) ∧ W'.cell? ⟨w.heap.size + 1, 6, none⟩ = some (.int .i64 ot)) (((with_reducible refine mkS.out _ ?_); first | ((repeat (first | (with_reducible refine bel_alloc ?_ _) | (with_reducible refine Below.setCell ?_ (by dsimp only; first | omega | (simp; omega)) _) | (with_reducible refine Below.drew ?_))); first | (with_reducible exact Below.refl _ _) | (with_reducible exact HB6.out)) | ((repeat (first | (with_reducible refine bel_alloc ?_ _) | (with_reducible refine Below.setCell ?_ (by dsimp only; first | omega | (simp; omega)) _) | (with_reducible refine Below.drew ?_))); first | (with_reducible exact Below.refl _ _) | (with_reducible exact HB7.out)) | ((repeat (first | (with_reducible refine bel_alloc ?_ _) | (with_reducible refine Below.setCell ?_ (by dsimp only; first | omega | (simp; omega)) _) | (with_reducible refine Below.drew ?_))); first | (with_reducible exact Below.refl _ _) | (with_reducible exact trivial)))) ((first
        | (go_at_call 23; (with_reducible refine Calls.mono (SP.out _ (HO3.out.rd.below (by ((repeat (first | (with_reducible refine bel_alloc ?_ _) | (with_reducible refine Below.setCell ?_ (by dsimp only; first | omega | (simp; omega)) _) | (with_reducible refine Below.drew ?_))); first | (with_reducible exact Below.refl _ _) | (with_reducible exact trivial))))) ?_); rintro e w5 ⟨rfl, g5⟩; have HB5 := Lib.hid (bel_grew (w := W3) (by ((repeat (first | (with_reducible refine bel_alloc ?_ _) | (with_reducible refine Below.setCell ?_ (by dsimp only; first | omega | (simp; omega)) _) | (with_reducible refine Below.drew ?_))); first | (with_reducible exact Below.refl _ _) | (with_reducible exact trivial))) g5); have HB7 := Lib.hid (Below.mono (B' := w.heap.size + 1 + 1) HB5.out (by omega)); clear g5)
        | (go_at_call 73; (with_reducible refine Calls.mono (S.out _ (HO3.out.below (by ((repeat (first | (with_reducible refine bel_alloc ?_ _) | (with_reducible refine Below.setCell ?_ (by dsimp only; first | omega | (simp; omega)) _) | (with_reducible refine Below.drew ?_))); first | (with_reducible exact Below.refl _ _) | (with_reducible exact HB5.out)))) (Nat.le_trans hb3 (Below.size (by ((repeat (first | (with_reducible refine bel_alloc ?_ _) | (with_reducible refine Below.setCell ?_ (by dsimp only; first | omega | (simp; omega)) _) | (with_reducible refine Below.drew ?_))); first | (with_reducible exact Below.refl _ _) | (with_reducible exact HB5.out)))))) ?_); rintro e w4 ⟨⟨A4, n4, c4, F4, m4, d4⟩, os4, rfl, O4, b4'⟩; simp only [hval, hcs]; have b4 := bel_chain (w := W3) (by ((repeat (first | (with_reducible refine bel_alloc ?_ _) | (with_reducible refine Below.setCell ?_ (by dsimp only; first | omega | (simp; omega)) _) | (with_reducible refine Below.drew ?_))); first | (with_reducible exact Below.refl _ _) | (with_reducible exact HB5.out))) hb3 b4'; clear b4'; have HB6 := Lib.hid (Below.mono (B' := w.heap.size + 1 + 1) b4 (by omega)); have hf := HF.out w4 ⟨A4, n4, c4, F4, m4, d4⟩ os4 O4 b4; have HFF := Lib.hid hf; obtain ⟨r0, r1, r2, r3, r4, r5, r6, r7⟩ := hf.1.eight; obtain ⟨q0, q1⟩ := hf.2.1.two; have fr := hf.1.free; have fq := hf.2.1.free; unfold set2 set8 at HFF; simp only [hcs] at HFF; clear hf O4 b4)))
      all_goals
        go_wp2
        refine bodyPost_ret (results_two rfl _ _ (w.heap.size + 1 + 1) (w.heap.size + 1 + 1 + 1) rfl rfl HFF.out.2.2.1 HFF.out.2.2.2.1) rfl ?_
        exact ⟨⟨A4, n4, c4, F4, m4, d4⟩, os4, rfl, HFF.out.2.2.2.2.1.mono (by omega), HFF.out.2.2.2.2.2⟩
    · have f2 : (ok == 2) = false := by rw [e]; rfl
      have f3 : (ok == 3) = false := by rw [e]; rfl
      have f4 : (ok == 4) = false := by rw [e]; rfl
      have f6 : (ok == 6) = true := by rw [e]; rfl
      clear e
      go_upto_region 10 with (fail)
      go_region_held3 (fun W' => W'.cell? ⟨w.heap.size, 0, none⟩ = some (.int .i64 H.od) ∧ W'.cell? ⟨w.heap.size, 1, none⟩ = some (.slice A2 n2 c2) ∧ W'.cell? ⟨w.heap.size, 2, none⟩ = some (.int .i64 H.nx) ∧ W'.cell? ⟨w.heap.size, 3, none⟩ = some (.int .i64 (tget H 0)) ∧ W'.cell? ⟨w.heap.size, 4, none⟩ = some (.int .i64 (tget H 1)) ∧ W'.cell? ⟨w.heap.size, 5, none⟩ = some (.int .i64 (tget H 2)) ∧ W'.cell? ⟨w.heap.size, 6, none⟩ = some (.int .i64 (tget H 3)) ∧ W'.cell? ⟨w.heap.size, 7, none⟩ = some (.slice F2 m2 d2) ∧ W'.cell? ⟨w.heap.size + 1, 0, none⟩ = some (.int .i64 ok) ∧ W'.cell? ⟨w.heap.size + 1, 1, none⟩ = some (.int .i64 oh) ∧ W'.cell? ⟨w.heap.size + 1, 2, none⟩ = some (.int .i64 oi) ∧ W'.cell? ⟨w.heap.size + 1, 3, none⟩ = some (.int .i64 on) ∧ W'.cell? ⟨w.heap.size + 1, 4, none⟩ = some (.int .i64 okk) ∧ W'.cell? ⟨w.heap.size + 1, 5, none⟩ = some (.int .i64 ov) ∧ W'.cell? ⟨w.heap.size + 1, 6, none⟩ = some (.int .i64 ot)) (((with_reducible refine mkS.out _ ?_); first | ((repeat (first | (with_reducible refine bel_alloc ?_ _) | (with_reducible refine Below.setCell ?_ (by dsimp only; first | omega | (simp; omega)) _) | (with_reducible refine Below.drew ?_))); first | (with_reducible exact Below.refl _ _) | (with_reducible exact HB6.out)) | ((repeat (first | (with_reducible refine bel_alloc ?_ _) | (with_reducible refine Below.setCell ?_ (by dsimp only; first | omega | (simp; omega)) _) | (with_reducible refine Below.drew ?_))); first | (with_reducible exact Below.refl _ _) | (with_reducible exact HB7.out)) | ((repeat (first | (with_reducible refine bel_alloc ?_ _) | (with_reducible refine Below.setCell ?_ (by dsimp only; first | omega | (simp; omega)) _) | (with_reducible refine Below.drew ?_))); first | (with_reducible exact Below.refl _ _) | (with_reducible exact trivial)))) ((first
        | (go_at_call 23; (with_reducible refine Calls.mono (SP.out _ (HO3.out.rd.below (by ((repeat (first | (with_reducible refine bel_alloc ?_ _) | (with_reducible refine Below.setCell ?_ (by dsimp only; first | omega | (simp; omega)) _) | (with_reducible refine Below.drew ?_))); first | (with_reducible exact Below.refl _ _) | (with_reducible exact trivial))))) ?_); rintro e w5 ⟨rfl, g5⟩; have HB5 := Lib.hid (bel_grew (w := W3) (by ((repeat (first | (with_reducible refine bel_alloc ?_ _) | (with_reducible refine Below.setCell ?_ (by dsimp only; first | omega | (simp; omega)) _) | (with_reducible refine Below.drew ?_))); first | (with_reducible exact Below.refl _ _) | (with_reducible exact trivial))) g5); have HB7 := Lib.hid (Below.mono (B' := w.heap.size + 1 + 1) HB5.out (by omega)); clear g5)
        | (go_at_call 73; (with_reducible refine Calls.mono (S.out _ (HO3.out.below (by ((repeat (first | (with_reducible refine bel_alloc ?_ _) | (with_reducible refine Below.setCell ?_ (by dsimp only; first | omega | (simp; omega)) _) | (with_reducible refine Below.drew ?_))); first | (with_reducible exact Below.refl _ _) | (with_reducible exact HB5.out)))) (Nat.le_trans hb3 (Below.size (by ((repeat (first | (with_reducible refine bel_alloc ?_ _) | (with_reducible refine Below.setCell ?_ (by dsimp only; first | omega | (simp; omega)) _) | (with_reducible refine Below.drew ?_))); first | (with_reducible exact Below.refl _ _) | (with_reducible exact HB5.out)))))) ?_); rintro e w4 ⟨⟨A4, n4, c4, F4, m4, d4⟩, os4, rfl, O4, b4'⟩; simp only [hval, hcs]; have b4 := bel_chain (w := W3) (by ((repeat (first | (with_reducible refine bel_alloc ?_ _) | (with_reducible refine Below.setCell ?_ (by dsimp only; first | omega | (simp; omega)) _) | (with_reducible refine Below.drew ?_))); first | (with_reducible exact Below.refl _ _) | (with_reducible exact HB5.out))) hb3 b4'; clear b4'; have HB6 := Lib.hid (Below.mono (B' := w.heap.size + 1 + 1) b4 (by omega)); have hf := HF.out w4 ⟨A4, n4, c4, F4, m4, d4⟩ os4 O4 b4; have HFF := Lib.hid hf; obtain ⟨r0, r1, r2, r3, r4, r5, r6, r7⟩ := hf.1.eight; obtain ⟨q0, q1⟩ := hf.2.1.two; have fr := hf.1.free; have fq := hf.2.1.free; unfold set2 set8 at HFF; simp only [hcs] at HFF; clear hf O4 b4)))
      all_goals
        go_wp2
        refine bodyPost_ret (results_two rfl _ _ (w.heap.size + 1 + 1) (w.heap.size + 1 + 1 + 1) rfl rfl HFF.out.2.2.1 HFF.out.2.2.2.1) rfl ?_
        exact ⟨⟨A4, n4, c4, F4, m4, d4⟩, os4, rfl, HFF.out.2.2.2.2.1.mono (by omega), HFF.out.2.2.2.2.2⟩
    · have f2 : (ok == 2) = false := by rw [e]; rfl
      have f3 : (ok == 3) = false := by rw [e]; rfl
      have f4 : (ok == 4) = false := by rw [e]; rfl
      have f6 : (ok == 6) = false := by rw [e]; rfl
      have f7 : (ok == 7) = true := by rw [e]; rfl
      clear e
      go_upto_region 10 with (fail)
      go_region_held3 (fun W' => W'.cell? ⟨w.heap.size, 0, none⟩ = some (.int .i64 H.od) ∧ W'.cell? ⟨w.heap.size, 1, none⟩ = some (.slice A2 n2 c2) ∧ W'.cell? ⟨w.heap.size, 2, none⟩ = some (.int .i64 H.nx) ∧ W'.cell? ⟨w.heap.size, 3, none⟩ = some (.int .i64 (tget H 0)) ∧ W'.cell? ⟨w.heap.size, 4, none⟩ = some (.int .i64 (tget H 1)) ∧ W'.cell? ⟨w.heap.size, 5, none⟩ = some (.int .i64 (tget H 2)) ∧ W'.cell? ⟨w.heap.size, 6, none⟩ = some (.int .i64 (tget H 3)) ∧ W'.cell? ⟨w.heap.size, 7, none⟩ = some (.slice F2 m2 d2) ∧ W'.cell? ⟨w.heap.size + 1, 0, none⟩ = some (.int .i64 ok) ∧ W'.cell? ⟨w.heap.size + 1, 1, none⟩ = some (.int .i64 oh) ∧ W'.cell? ⟨w.heap.size + 1, 2, none⟩ = some (.int .i64 oi) ∧ W'.cell? ⟨w.heap.size + 1, 3, none⟩ = some (.int .i64 on) ∧ W'.cell? ⟨w.heap.size + 1, 4, none⟩ = some (.int .i64 okk) ∧ W'.cell? ⟨w.heap.size + 1, 5, none⟩ = some (.int .i64 ov) ∧ W'.cell? ⟨w.heap.size + 1, 6, none⟩ = some (.int .i64 ot)) (((with_reducible refine mkS.out _ ?_); first | ((repeat (first | (with_reducible refine bel_alloc ?_ _) | (with_reducible refine Below.setCell ?_ (by dsimp only; first | omega | (simp; omega)) _) | (with_reducible refine Below.drew ?_))); first | (with_reducible exact Below.refl _ _) | (with_reducible exact HB6.out)) | ((repeat (first | (with_reducible refine bel_alloc ?_ _) | (with_reducible refine Below.setCell ?_ (by dsimp only; first | omega | (simp; omega)) _) | (with_reducible refine Below.drew ?_))); first | (with_reducible exact Below.refl _ _) | (with_reducible exact HB7.out)) | ((repeat (first | (with_reducible refine bel_alloc ?_ _) | (with_reducible refine Below.setCell ?_ (by dsimp only; first | omega | (simp; omega)) _) | (with_reducible refine Below.drew ?_))); first | (with_reducible exact Below.refl _ _) | (with_reducible exact trivial)))) ((first
        | (go_at_call 23; (with_reducible refine Calls.mono (SP.out _ (HO3.out.rd.below (by ((repeat (first | (with_reducible refine bel_alloc ?_ _) | (with_reducible refine Below.setCell ?_ (by dsimp only; first | omega | (simp; omega)) _) | (with_reducible refine Below.drew ?_))); first | (with_reducible exact Below.refl _ _) | (with_reducible exact trivial))))) ?_); rintro e w5 ⟨rfl, g5⟩; have HB5 := Lib.hid (bel_grew (w := W3) (by ((repeat (first | (with_reducible refine bel_alloc ?_ _) | (with_reducible refine Below.setCell ?_ (by dsimp only; first | omega | (simp; omega)) _) | (with_reducible refine Below.drew ?_))); first | (with_reducible exact Below.refl _ _) | (with_reducible exact trivial))) g5); have HB7 := Lib.hid (Below.mono (B' := w.heap.size + 1 + 1) HB5.out (by omega)); clear g5)
        | (go_at_call 73; (with_reducible refine Calls.mono (S.out _ (HO3.out.below (by ((repeat (first | (with_reducible refine bel_alloc ?_ _) | (with_reducible refine Below.setCell ?_ (by dsimp only; first | omega | (simp; omega)) _) | (with_reducible refine Below.drew ?_))); first | (with_reducible exact Below.refl _ _) | (with_reducible exact HB5.out)))) (Nat.le_trans hb3 (Below.size (by ((repeat (first | (with_reducible refine bel_alloc ?_ _) | (with_reducible refine Below.setCell ?_ (by dsimp only; first | omega | (simp; omega)) _) | (with_reducible refine Below.drew ?_))); first | (with_reducible exact Below.refl _ _) | (with_reducible exact HB5.out)))))) ?_); rintro e w4 ⟨⟨A4, n4, c4, F4, m4, d4⟩, os4, rfl, O4, b4'⟩; simp only [hval, hcs]; have b4 := bel_chain (w := W3) (by ((repeat (first | (with_reducible refine bel_alloc ?_ _) | (with_reducible refine Below.setCell ?_ (by dsimp only; first | omega | (simp; omega)) _) | (with_reducible refine Below.drew ?_))); first | (with_reducible exact Below.refl _ _) | (with_reducible exact HB5.out))) hb3 b4'; clear b4'; have HB6 := Lib.hid (Below.mono (B' := w.heap.size + 1 + 1) b4 (by omega)); have hf := HF.out w4 ⟨A4, n4, c4, F4, m4, d4⟩ os4 O4 b4; have HFF := Lib.hid hf; obtain ⟨r0, r1, r2, r3, r4, r5, r6, r7⟩ := hf.1.eight; obtain ⟨q0, q1⟩ := hf.2.1.two; have fr := hf.1.free; have fq := hf.2.1.free; unfold set2 set8 at HFF; simp only [hcs] at HFF; clear hf O4 b4)))
      all_goals
        go_wp2
        refine bodyPost_ret (results_two rfl _ _ (w.heap.size + 1 + 1) (w.heap.size + 1 + 1 + 1) rfl rfl HFF.out.2.2.1 HFF.out.2.2.2.1) rfl ?_
        exact ⟨⟨A4, n4, c4, F4, m4, d4⟩, os4, rfl, HFF.out.2.2.2.2.1.mono (by omega), HFF.out.2.2.2.2.2⟩
  have e2 : (ok == 2) = false := by simp; intro e; exact ho (by unfold isObj; omega)
  have e3 : (ok == 3) = false := by simp; intro e; exact ho (by unfold isObj; omega)
  have e4 : (ok == 4) = false := by simp; intro e; exact ho (by unfold isObj; omega)
  have e6 : (ok == 6) = false := by simp; intro e; exact ho (by unfold isObj; omega)
  have e7 : (ok == 7) = false := by simp; intro e; exact ho (by unfold isObj; omega)
  by_cases ht : ok = 5 ∨ ok = 8
  · have S := refTop_in ⟨A2, n2, c2, F2, m2, d2⟩ os H ⟨ok, oh, oi, on, okk, ov, ot⟩ W3 B HO3.out hb3 hn2
    rw [show topH H ⟨ok, oh, oi, on, okk, ov, ot⟩ = r by rw [Hr.out, doneH_tops ht]] at S
    simp only [hval, hcs, opv, opcs] at S
    obtain ⟨r1', rc, rv⟩ := r
    rcases ht with e | e
    all_goals
      subst e
      go_wp2_with (go_at_call 74; refine S.mono ?_; rintro e w4 ⟨⟨A4, n4, c4, F4, m4, d4⟩, os4, rfl, O4, b4⟩; simp only [hval, hcs]; have hf := HF.out w4 ⟨A4, n4, c4, F4, m4, d4⟩ os4 O4 b4; have HFF := Lib.hid hf; obtain ⟨r0, r1, r2, r3, r4, r5, r6, r7⟩ := hf.1.eight; obtain ⟨q0, q1⟩ := hf.2.1.two; have fr := hf.1.free; have fq := hf.2.1.free; unfold set2 set8 at HFF; simp only [hcs] at HFF; clear hf O4 b4)
      refine bodyPost_ret (results_two rfl _ _ (w.heap.size + 1 + 1) (w.heap.size + 1 + 1 + 1) rfl rfl HFF.out.2.2.1 HFF.out.2.2.2.1) rfl ?_
      exact ⟨⟨A4, n4, c4, F4, m4, d4⟩, os4, rfl, HFF.out.2.2.2.2.1.mono (by omega), HFF.out.2.2.2.2.2⟩
  have e5 : (ok == 5) = false := by simp; intro e; exact ht (.inl e)
  have e8 : (ok == 8) = false := by simp; intro e; exact ht (.inr e)
  have hlast : r = (H, 54, 0) := by rw [Hr.out, doneH_other h1 ho ht]
  subst hlast
  have hf := HF.out W3 ⟨A2, n2, c2, F2, m2, d2⟩ os HO3.out (Below.refl _ _)
  have HFF := Lib.hid hf
  obtain ⟨r0, r1, r2, r3, r4, r5, r6, r7⟩ := hf.1.eight
  obtain ⟨q0, q1⟩ := hf.2.1.two
  have fr := hf.1.free
  have fq := hf.2.1.free
  unfold set2 set8 at HFF
  simp only [hcs] at HFF
  clear hf ho ht h1
  go_wp2
  refine bodyPost_ret (results_two rfl _ _ (w.heap.size + 1 + 1) (w.heap.size + 1 + 1 + 1) rfl rfl HFF.out.2.2.1 HFF.out.2.2.2.1) rfl ?_
  exact ⟨⟨A2, n2, c2, F2, m2, d2⟩, os, rfl, HFF.out.2.2.2.2.1.mono (by omega), HFF.out.2.2.2.2.2⟩

set_option maxRecDepth 100000 in
set_option maxHeartbeats 4000000 in
theorem refDo_any (s : HSl) (H : Hp) (o : Opn) (w : World) (h : RdH w s H) (hS : SmallH H) :
    Calls Tryz.prog 14 #[hval H s, opv o] w (InPost w w.heap.size (doH H o)) := by
  have M := FnMem.start w (hcs H s) (opcs o)
  have HH := Lib.hid h
  obtain ⟨r, hr⟩ : ∃ r, r = doH H o := ⟨_, rfl⟩
  rw [← hr]
  have Hr := Lib.hid hr
  have SR := fun (W : World) (b : Below w.heap.size w W) => refRightH_any s H W (h.below b) hS
  have SD := Lib.hid fun (W : World) (R : RdH W s H) (hR : RightH H) => refDone_any s H o W R hR
  obtain ⟨A, n, c, F, m, d⟩ := s
  obtain ⟨ok, oh, oi, on, okk, ov, ot⟩ := o
  clear h hS hr
  simp only [hval, hcs, opv, opcs, zcs, rcs] at *
  go_enter Tryz.func14, Tryz.ntmps14
  go_upto_region 1 with (fail)
  generalize (((w.alloc (.cells _ 26)).alloc (.cells _ 29)).alloc (.cells _ 26)).alloc (.cells _ 34) = W at M ⊢
  obtain ⟨k0, k1, k2, k3, k4, k5, k6, k7⟩ := M.kh.eight
  have S1 := SR W M.bel
  have HM := Lib.hid M
  clear SR
  by_cases hR : RightH H
  case neg =>
    rw [decide_eq_false hR] at S1
    have hl : r = (zeroH, 1, 0) := by rw [Hr.out, doH_wrong hR]
    subst hl
    clear hR SD
    go_upto_region 2 with (go_at_call 37; refine S1.mono ?_; rintro e w2 ⟨rfl, g2⟩)
    have M2 := HM.out.below g2
    have hf := fin_two (rc := 1) (rv := 0) (s := ⟨none, 0, 0, none, 0, 0⟩) (H' := zeroH) (os := []) (base := w.heap.size) M2.kr M2.kq (by omega) ⟨OwnOs.nil, rfl, OwnB.nil, rfl, by simp [zeroH]⟩
    have hb := hf.2.2.2 w.heap.size w M2.bel (Nat.le_refl _) (by omega) (by omega)
    have r0 := M2.kr.cell 0
    have r1 := M2.kr.cell 1
    have r2 := M2.kr.cell 2
    have r3 := M2.kr.cell 3
    have r4 := M2.kr.cell 4
    have r5 := M2.kr.cell 5
    have r6 := M2.kr.cell 6
    have r7 := M2.kr.cell 7
    obtain ⟨q0, q1⟩ := M2.kq.two
    simp only [zcs, List.getElem?_cons_succ, List.getElem?_cons_zero] at r0 r1 r2 r3 r4 r5 r6 r7
    have fr := M2.kr.free
    have fq := M2.kq.free
    have HF := Lib.hid hf.1
    have HF1 := Lib.hid hf.2.1
    have HF2 := Lib.hid hf.2.2.1
    have HF3 := Lib.hid hb
    unfold set2 set8 at HF HF1 HF2 HF3
    simp only [hcs] at HF HF1 HF2 HF3
    clear hf hb M2 HM M k0 k1 k2 k3 k4 k5 k6 k7 S1
    go_wp2
    refine bodyPost_ret (results_two rfl _ _ (w.heap.size + 1 + 1) (w.heap.size + 1 + 1 + 1) rfl rfl HF.out HF1.out) rfl ?_
    exact ⟨⟨none, 0, 0, none, 0, 0⟩, [], rfl, HF2.out, HF3.out⟩
  rw [decide_eq_true hR] at S1
  have hrr : r = doneH H ⟨ok, oh, oi, on, okk, ov, ot⟩ := by rw [Hr.out, doH_right hR]
  have SD2 := Lib.hid fun (W : World) (R : RdH W ⟨A, n, c, F, m, d⟩ H) => (by have h1 := SD.out W R hR; rw [← hrr] at h1; exact h1)
  obtain ⟨r1', rc, rv⟩ := r
  try simp only [hval, hcs] at SD2
  clear hrr SD Hr hR M
  go_upto_region 3 with (go_at_call 37; refine S1.mono ?_; rintro e w2 ⟨rfl, g2⟩)
  have M2 := HM.out.below g2
  clear k0 k1 k2 k3 k4 k5 k6 k7 S1 g2 HM
  obtain ⟨k0, k1, k2, k3, k4, k5, k6, k7⟩ := M2.kh.eight
  obtain ⟨p0, p1, p2, p3, p4, p5, p6⟩ := M2.ko.seven
  have S2 := SD2.out w2 (HH.out.below M2.bel)
  have HM2 := Lib.hid M2
  clear M2
  go_wp2_with (go_at_call 38; refine S2.mono ?_; rintro e w4 ⟨⟨A4, n4, c4, F4, m4, d4⟩, os4, rfl, O4, b4⟩; simp only [hval, hcs]; have M4 := HM2.out.below b4; have hf := fin_two (rc := rc) (rv := rv) M4.kr M4.kq (by omega) O4; have hb := hf.2.2.2 w.heap.size w M4.bel (Nat.le_refl _) (by omega) (by omega); obtain ⟨r0, r1, r2, r3, r4, r5, r6, r7⟩ := M4.kr.eight; obtain ⟨q0, q1⟩ := M4.kq.two; have fr := M4.kr.free; have fq := M4.kq.free; have HF := Lib.hid hf.1; have HF1 := Lib.hid hf.2.1; have HF2 := Lib.hid hf.2.2.1; have HF3 := Lib.hid hb; unfold set2 set8 at HF HF1 HF2 HF3; simp only [hcs] at HF HF1 HF2 HF3; clear hf hb M4 O4 b4)
  refine bodyPost_ret (results_two rfl _ _ (w.heap.size + 1 + 1) (w.heap.size + 1 + 1 + 1) rfl rfl HF.out HF1.out) rfl ?_
  exact ⟨⟨A4, n4, c4, F4, m4, d4⟩, os4, rfl, HF2.out.mono HM2.out.bel.size, HF3.out⟩
end Go.Proofs.YtkbggbgnnllmjaaGreatDoor
namespace Go.Proofs.YtkbggbgnnllmjaaGreatDoor
open Go.RowKit

set_option maxRecDepth 100000 in
set_option maxHeartbeats 4000000 in
theorem does_walk (s : HSl) (H : Hp) (o : Opn) (w : World) (hT : Tab w) (h : RdH w s H) :
    Calls Tryz.prog 3 #[hval H s, opv o] w (Tells w (.bool true)) := by
  have HT := Lib.hid hT
  have HR := Lib.hid h
  have S1 := fun (W : World) (b : Below w.heap.size w W) => refBig_any s H W (h.below b)
  clear hT h
  go_enter Tryz.func3, Tryz.ntmps3
  obtain ⟨A, n, c, F, m, d⟩ := s
  obtain ⟨o, ho⟩ : ∃ o', o' = o := ⟨_, rfl⟩
  rw [← ho]
  clear ho
  obtain ⟨ok, oh, oi, on, okk, ov, ot⟩ := o
  simp only [hval, hcs, opv, opcs] at *
  obtain ⟨p, W, hW, hp, K, KO, bw⟩ := box_ho w (.int .i64 H.od) (.slice A n c) (.int .i64 H.nx) (.int .i64 (tget H 0)) (.int .i64 (tget H 1)) (.int .i64 (tget H 2)) (.int .i64 (tget H 3)) (.slice F m d) (.int .i64 ok) (.int .i64 oh) (.int .i64 oi) (.int .i64 on) (.int .i64 okk) (.int .i64 ov) (.int .i64 ot)
  have S2 := S1 W bw
  clear S1
  go_upto_region 1 with (fail)
  try rw [hW]
  rw [← hp]
  clear hW hp
  obtain ⟨c0, c1, c2, c3, c4, c5, c6, c7⟩ := K.eight
  have KH := Lib.hid K
  have KOH := Lib.hid KO
  have BH := Lib.hid bw
  clear K KO bw
  go_upto_region 3 with (go_at_call 11; refine S2.mono ?_; rintro e w1 ⟨q, rfl, hq, g1⟩; cases q)
  rotate_left
  · go_ret
    exact ⟨rfl, BH.out.trans (g1.below.mono BH.out.size)⟩
  clear S2
  have hS := Lib.hid (hq (by first | rfl | trivial))
  have K1H := Lib.hid (KH.out.below g1.below)
  have KO1H := Lib.hid (KOH.out.below g1.below)
  have B1 := Lib.hid (BH.out.trans (g1.below.mono BH.out.size))
  clear g1 BH c0 c1 c2 c3 c4 c5 c6 c7 hq KH KOH
  -- a copy
  obtain ⟨c0, c1, c2, c3, c4, c5, c6, c7⟩ := K1H.out.eight
  have S2 := refOwnH_any ⟨A, n, c, F, m, d⟩ H w1 (HR.out.below B1.out) hS.out
  simp only [hval, hcs] at S2
  go_upto_region 4 with (go_at_call 12; refine S2.mono ?_; rintro e w2 ⟨⟨A2, n2, c2', F2, m2, d2⟩, os2, rfl, o2, b2⟩; simp only [hval, hcs])
  clear S2
  obtain ⟨p2, W2, hW2, hp2, K2x, bw2⟩ := box_heap w2 (.int .i64 H.od) (.slice A2 n2 c2') (.int .i64 H.nx) (.int .i64 (tget H 0)) (.int .i64 (tget H 1)) (.int .i64 (tget H 2)) (.int .i64 (tget H 3)) (.slice F2 m2 d2)
  rw [hW2, ← hp2]
  have bb2 := b2.trans (bw2.mono b2.size)
  have K2H := Lib.hid (K1H.out.below bb2)
  have KO2 := Lib.hid (KO1H.out.below bb2)
  have B2 := Lib.hid (B1.out.trans (bb2.mono B1.out.size))
  have KX2 := Lib.hid K2x
  have O2 := Lib.hid (o2.rd.below bw2)
  clear hW2 hp2 K2x bw2 b2 bb2 o2 B1 K1H KO1H c0 c1 c2 c3 c4 c5 c6 c7
  -- what is made of it
  obtain ⟨c0, c1, c2, c3, c4, c5, c6, c7⟩ := K2H.out.eight
  obtain ⟨p0, p1, p2', p3, p4, p5, p6⟩ := KO2.out.seven
  have S3 := do_heap ⟨A, n, c, F, m, d⟩ H ⟨ok, oh, oi, on, okk, ov, ot⟩ W2 (HR.out.below B2.out) hS.out (HT.out.below B2.out)
  obtain ⟨r1, hr1⟩ : ∃ r1, r1 = doH H ⟨ok, oh, oi, on, okk, ov, ot⟩ := ⟨_, rfl⟩
  rw [← hr1] at S3
  have HR1 := Lib.hid hr1
  have hs1 := Lib.hid (show SmallH r1.1 by rw [hr1]; exact doH_small _)
  simp only [hval, hcs, opv, opcs] at S3
  obtain ⟨x1, e1, v1⟩ := r1
  clear hr1
  go_upto_region 5 with (go_at_call 13; refine S3.mono ?_; rintro e w3 ⟨⟨A3, n3, c3', F3, m3, d3⟩, os3, rfl, o3, b3⟩; simp only [hval, hcs])
  clear S3
  obtain ⟨p3', W3, hW3, hp3, Kx3, Kr3, bw3⟩ := box_two w3 (.int .i64 x1.od) (.slice A3 n3 c3') (.int .i64 x1.nx) (.int .i64 (tget x1 0)) (.int .i64 (tget x1 1)) (.int .i64 (tget x1 2)) (.int .i64 (tget x1 3)) (.slice F3 m3 d3) (.int .i64 e1) (.int .i64 v1)
  rw [hW3, ← hp3]
  have bb3 := b3.trans (bw3.mono b3.size)
  have K3H := Lib.hid (K2H.out.below bb3)
  have KO3 := Lib.hid (KO2.out.below bb3)
  have KX3 := Lib.hid (KX2.out.below bb3)
  have O3 := Lib.hid (O2.out.below bb3)
  have B3 := Lib.hid (B2.out.trans (bb3.mono B2.out.size))
  have KY3 := Lib.hid Kx3
  have KR3 := Lib.hid Kr3
  have OX3 := Lib.hid (o3.below bw3)
  have HW2 := Lib.hid bb3.size
  have hb23 := Lib.hid bb3
  clear hW3 hp3 Kx3 Kr3 bw3 b3 bb3 o3 c0 c1 c2 c3 c4 c5 c6 c7 p0 p1 p2' p3 p4 p5 p6
  -- the document's
  obtain ⟨c0, c1, c2, c3, c4, c5, c6, c7⟩ := KX3.out.eight
  obtain ⟨p0, p1, p2', p3, p4, p5, p6⟩ := KO3.out.seven
  have S4 := refDo_any ⟨A2, n2, c2', F2, m2, d2⟩ H ⟨ok, oh, oi, on, okk, ov, ot⟩ W3 O3.out hS.out
  rw [← HR1.out] at S4
  simp only [hval, hcs, opv, opcs] at S4
  go_upto_region 6 with (go_at_call 14; refine S4.mono ?_; rintro e w4 ⟨⟨A4, n4, c4', F4, m4, d4⟩, os4, rfl, o4, b4⟩; simp only [hval, hcs])
  clear S4
  obtain ⟨p4', W4, hW4, hp4, Kx4, Kr4, bw4⟩ := box_two w4 (.int .i64 x1.od) (.slice A4 n4 c4') (.int .i64 x1.nx) (.int .i64 (tget x1 0)) (.int .i64 (tget x1 1)) (.int .i64 (tget x1 2)) (.int .i64 (tget x1 3)) (.slice F4 m4 d4) (.int .i64 e1) (.int .i64 v1)
  rw [hW4, ← hp4]
  have bb4 := b4.trans (bw4.mono b4.size)
  have K4H := Lib.hid (K3H.out.below bb4)
  have KX4 := Lib.hid (KX3.out.below bb4)
  have KY4 := Lib.hid (KY3.out.below bb4)
  have KR4 := Lib.hid (KR3.out.below bb4)
  have OX4 := Lib.hid (OX3.out.below bb4)
  have OY4 := Lib.hid (o4.rd.below bw4)
  have B4 := Lib.hid (B3.out.trans (bb4.mono B3.out.size))
  have KZ4 := Lib.hid Kx4
  have KS4 := Lib.hid Kr4
  have hb24 := Lib.hid (hb23.out.trans (bb4.mono hb23.out.size))
  clear hW4 hp4 Kx4 Kr4 bw4 b4 bb4 o4 c0 c1 c2 c3 c4 c5 c6 c7 p0 p1 p2' p3 p4 p5 p6 hb23
  -- both are the same
  obtain ⟨c0, c1, c2, c3, c4, c5, c6, c7⟩ := KY4.out.eight
  obtain ⟨d0, d1, d2', d3', d4', d5, d6, d7⟩ := KZ4.out.eight
  have S5 := refSameH_any ⟨A3, n3, c3', F3, m3, d3⟩ ⟨A4, n4, c4', F4, m4, d4⟩ x1 x1 W4 OX4.out.rd OY4.out hs1.out
  simp only [hval, hcs, decide_true] at S5
  have run := run_eql_res e1 v1 e1 v1
  rw [show sameB (e1, v1) (e1, v1) = true by simp [sameB]] at run
  have HG := Lib.hid fun (W : World) (g : Grew W4 W) => And.intro (KR4.out.below g.below).two (KS4.out.below g.below).two
  go_upto_region 7 with (go_at_call 15; refine S5.mono ?_; rintro e w5 ⟨rfl, g5⟩; obtain ⟨⟨r0, r1⟩, q0, q1⟩ := HG.out _ g5)
  clear S5 c0 c1 c2 c3 c4 c5 c6 c7 d0 d1 d2' d3' d4' d5 d6 d7 r0 r1 q0 q1 HG run
  have b45 := g5.below
  have O5 := OX4.out.below b45
  have hol := O5.rd.obs.len
  have hfl := O5.rd.fr.len
  have S6 := over_any ⟨A3, n3, c3', F3, m3, d3⟩ os3 x1 w5 W2.heap.size O5 (Nat.le_trans hb24.out.size b45.size) (by have h1 := hs1.out.1; simp only at hol ⊢; omega) (by have h1 := hs1.out.2.1; simp only at hfl ⊢; omega) (fun q hq => by have h1 := hs1.out.2.2 q.1 (show q.1 ∈ x1.obs by rw [O5.obs]; exact List.mem_map_of_mem hq); omega)
  simp only [hval, hcs] at S6
  obtain ⟨c0, c1, c2, c3, c4, c5, c6, c7⟩ := (KY4.out.below b45).eight
  have hb25 := Lib.hid (hb24.out.trans (b45.mono hb24.out.size))
  clear hol hfl O5
  go_upto_region 8 with (go_at_call 16; refine S6.mono ?_; rintro e w6 ⟨rfl, b6⟩)
  clear S6 c0 c1 c2 c3 c4 c5 c6 c7
  have b26 := Lib.hid (hb25.out.trans b6)
  have B6 := Lib.hid (B2.out.trans (b26.out.mono B2.out.size))
  have D6 := Lib.hid fun (W : World) (bl : Below w6.heap.size w6 W) => does_any W (HT.out.below (B6.out.trans (bl.mono B6.out.size)))
  have S7 := Lib.hid fun (W : World) (bl : Below w6.heap.size w6 W) => refSameH_any ⟨A, n, c, F, m, d⟩ ⟨A2, n2, c2', F2, m2, d2⟩ H H W (HR.out.below (B6.out.trans (bl.mono B6.out.size))) (O2.out.below (b26.out.trans (bl.mono b26.out.size))) hS.out
  simp only [hval, hcs, decide_true] at S7
  have HK := Lib.hid fun (W : World) (bl : Below w6.heap.size w6 W) => And.intro (K2H.out.below (b26.out.trans (bl.mono b26.out.size))).eight (KX2.out.below (b26.out.trans (bl.mono b26.out.size))).eight
  go_wp2_with (first
    | (go_at_call 17; refine (D6.out _ (Below.refl _ _)).mono ?_; rintro e w7 ⟨rfl, b7⟩; obtain ⟨⟨c0, c1, c2, c3, c4, c5, c6, c7⟩, d0, d1, d2', d3', d4', d5, d6, d7⟩ := HK.out _ b7)
    | (go_at_call 15; refine (S7.out _ b7).mono ?_; rintro e w8 ⟨rfl, g8⟩; have b8 := b7.trans (g8.below.mono b7.size)))
  go_ret
  exact ⟨rfl, B6.out.trans (b8.mono B6.out.size)⟩
end Go.Proofs.YtkbggbgnnllmjaaGreatDoor
