/-
  The document's own reading of states: the contract of tumulusref06.GetState.
-/
import Derived.Test.YtlnmmklpccppmaaGreatDoorSg58
import Derived.Test.YtlnmmklpccppmaaGreatDoorSg51
import Derived.Test.YtlnmmklpccppmaaGreatDoorSg47
import Derived.Test.YtlnmmklpccppmaaGreatDoorSg52
namespace Go.Proofs.YtlnmmklpccppmaaGreatDoor
open Go.RowKit
/-- A row, as the document reads it. -/
def irow (s : InS) : Rw × InS :=
  (⟨(nx pnum s).1, (nx pnum (nx pnum s).2).1, (nx pnum (nx pnum (nx pnum s).2).2).1, (nx pint (nx pnum (nx pnum (nx pnum s).2).2).2).1⟩, (nx pint (nx pnum (nx pnum (nx pnum s).2).2).2).2)
theorem goes_irow : Goes irow prow where
  ok s h := by
    unfold irow at h ⊢
    simp only at h ⊢
    obtain ⟨h3, q4⟩ := (goes_nx pint).ok _ h
    obtain ⟨h4, q3⟩ := (goes_nx pnum).ok _ h3
    obtain ⟨h5, q2⟩ := (goes_nx pnum).ok _ h4
    obtain ⟨h6, q1⟩ := (goes_nx pnum).ok _ h5
    exact ⟨h6, prow_5 q1 q2 q3 q4⟩
  full l b x r h := by
    obtain ⟨⟨h1, h2, h3, h4⟩, e⟩ := prow_codec.sound l x r h
    obtain ⟨p, q, c, v⟩ := x
    simp only at h1 h2 h3 h4
    subst e
    unfold encR irow
    simp only [List.append_assoc]
    rw [nx_some (pnum_codec.full _ _ h1)]
    simp only
    rw [nx_some (pnum_codec.full _ _ h2)]
    simp only
    rw [nx_some (pnum_codec.full _ _ h3)]
    simp only
    rw [nx_some (pint_codec.full _ _ h4)]
theorem states_some {b t : List UInt8} {k j : Nat} {H : Hp} {q : Int × InS} {rs : List Rw} (ht : rtext b = (t, k, 0)) (hh : GetsH t (some H)) (hq : q = nx pnum (b.drop k, false)) (hr : rep irow j q.2 = (rs, ([], false))) (hj : q.1 = (j : Int)) (hj5 : j ≤ 5) (ho : RowsOk rs) : GetsS b (some ⟨H, rs⟩) := by
  have h1 := rep_ok goes_irow q.2 j (by rw [hr])
  rw [hr] at h1
  have h2 := (goes_nx pnum).ok (b.drop k, false) (by rw [← hq]; exact h1.1)
  rw [← hq] at h2
  refine getss_some (m := 1000) (by omega) ht hh ?_ ho
  unfold prows
  rw [h2.2, Option.bind_some]
  simp only
  rw [hj, if_neg (by omega), Int.toNat_natCast]
  exact h1.2
theorem states_none {b t : List UInt8} {k j : Nat} {H : Hp} {q : Int × InS} {rs : List Rw} {lr : List UInt8} {bd : Bool} (ht : rtext b = (t, k, 0)) (hh : GetsH t (some H)) (hq : q = nx pnum (b.drop k, false)) (hr : rep irow j q.2 = (rs, (lr, bd))) (hk : (j : Int) ≤ q.1)
    (hE : ¬ ((j : Int) < q.1 ∧ j ≤ 4 ∧ bd = false)) (hR : bd = true ∨ lr ≠ [] ∨ q.1 ≠ (j : Int) ∨ ¬ RightS ⟨H, rs⟩) : GetsS b none := by
  intro S hS e
  have h1 := hS.text
  rw [e, ht] at h1
  injection h1 with e1 h1
  injection h1 with e2 _
  have h2 := ImS.rest (s := S)
  rw [e, ← e2] at h2
  have h3 := hh.uniq (show GetsH t (some S.hp) from ⟨hS.hp, e1.symm⟩)
  injection h3 with h3
  have hl := hS.rows.len
  have hp := (prows_codec 4 (by omega)).full S.rs [] ⟨by omega, fun x hx => hS.domR hx⟩
  rw [List.append_nil, ← h2] at hp
  unfold prows at hp
  cases e4 : pnum (b.drop k) with
  | none => rw [e4] at hp; cases hp
  | some p =>
    obtain ⟨nn, l1⟩ := p
    rw [e4, Option.bind_some] at hp
    simp only at hp
    split at hp
    · cases hp
    · have hd := (pnum_codec.sound _ _ _ e4).1
      have hnl := prep_len hp
      rw [nx_some e4] at hq
      subst hq
      simp only at hr hk hE hR
      have hn : nn = (S.rs.length : Int) := by rw [hnl]; exact (Int.toNat_of_nonneg hd.1).symm
      rw [← hnl] at hp
      obtain ⟨l', q1, q2⟩ := prep_take _ hp j (by omega)
      have h5 := rep_full goes_irow l1 false _ _ _ q1
      rw [hr] at h5
      injection h5 with f1 h5
      injection h5 with f2 f3
      subst f1 f2 f3
      simp only [and_true] at hE
      have hj : j = S.rs.length := by omega
      have hl' := q2 hj
      rcases hR with h | h | h | h
      · cases h
      · exact h hl'
      · omega
      · rw [hj, List.take_of_length_le (Nat.le_refl _), h3] at h
        exact h hS.right
theorem conv_strc (w : World) (l : List UInt8) (hl : l.length ≤ 65536) : ∃ c w2, (convert 9 29 (.string ⟨l.toArray⟩)).run Tryz.prog w = .ok (.slice (some ⟨w.heap.size, 0, none⟩) l.length c) w2 ∧ Rd w2 (some ⟨w.heap.size, 0, none⟩) l.length l ∧ Below w.heap.size w w2 ∧ l.length ≤ c ∧ c ≤ maxLen := by
  obtain ⟨c, w2, h, r, b⟩ := conv_str w l
  have h2 := Lib.run_convert_string_bytes w 9 29 5 ⟨l.toArray⟩ Tryz.underlying9 Tryz.underlying29 Tryz.underlying5
  rw [h] at h2
  injection h2 with h2 _
  injection h2 with _ _ h2
  have hs : (ByteArray.mk l.toArray).size = l.length := by simp [ByteArray.size]
  rw [hs] at h2
  exact ⟨c, w2, h, r, b, by rw [h2]; exact grownCap_ge _ _ _ _, by rw [h2]; exact grownCap_le_maxLen _ _ _ _ (by simp only [maxLen]; omega)⟩
theorem rtext_short (l : List UInt8) : (rtext l).1.length ≤ 65536 := by
  by_cases h : (rtext l).2.2 = 0
  · obtain ⟨s, e, hl, _⟩ := rtext_one h
    rw [e]
    exact hl
  · unfold rtext at h ⊢
    split
    · simp
    · split
      · simp
      · split
        · simp
        · rename_i h1 h2 h3
          rw [if_neg h1, if_neg h2, if_neg h3] at h
          exact absurd rfl h
/-- The boxes of the document's GetState behind its heap's reading, and its reader's: g and p. -/
structure SgM (w w5 : World) (g p : Nat) (s : InS) (W : World) (cs : List Value) : Prop where
  sb : Whole W p 39 cs
  inr : InR w W g s
  bel : Below w5.heap.size w5 W
section
variable {w w5 W W2 : World} {g p : Nat} {s s2 : InS} {cs : List Value}
theorem SgM.call (h : SgM w w5 g p s W cs) (h5 : w5.heap.size ≤ g) (hgp : g < p) (k : W.grownBy W2 (some g)) (r : InR w W2 g s2) : SgM w w5 g p s2 W2 cs :=
  ⟨h.sb.grown k (by omega), r, below_grown h.bel k h.bel.size h5⟩
theorem SgM.set (h : SgM w w5 g p s W cs) (hw : w.heap.size ≤ w5.heap.size) (h5 : w5.heap.size ≤ g) (hgp : g < p) (j : Nat) (v : Value) : SgM w w5 g p s (W.setCell ⟨p, j, none⟩ v) (cs.set j v) := by
  have gs := grown_set W p j v
  exact ⟨h.sb.set j v, h.inr.grown gs (fun e => by injection e with e; omega) (fun k e => by injection e with e; omega), below_grown h.bel gs h.bel.size (by omega)⟩
theorem SgM.other {r : Option Nat} (h : SgM w w5 g p s W cs) (hw : w.heap.size ≤ w5.heap.size) (h5 : w5.heap.size ≤ g) (hgp : g < p) (k : W.grownBy W2 r) (hr : ∀ q, r = some q → p < q) : SgM w w5 g p s W2 cs :=
  ⟨h.sb.keep (k.block _ h.sb.lt fun e => by have := hr _ e.symm; omega), h.inr.grown k (fun e => by have := hr _ e.symm; omega) (fun q e => by have := hr q e; omega), h.bel.grown k h.bel.size (fun q e => by have := hr q e; omega)⟩
end
/-- The rows so far. -/
def RgRel (w w5 : World) (g p : Nat) (cnt : Int) (H : Hp) (sl : HSl) (s : InS) (i : Value) (wr : World) : Prop :=
  ∃ (k : Nat) (rs : List Rw) (st : InS) (A : Option Addr) (c : Nat), i = .int .i64 (k : Int) ∧ (k : Int) ≤ cnt ∧ k ≤ 5 ∧ rep irow k s = (rs, st) ∧ SgM w w5 g p st wr (hcs H sl ++ [.slice A rs.length c]) ∧ OwnW wr (p + 1) (.slice A rs.length c) rs
/-- In a round: the row's box beside. -/
structure RvM (w w5 : World) (g p : Nat) (s : InS) (W : World) (cs : List Value) (p9 : Nat) (x : Rw) (v : Value) (rs : List Rw) : Prop where
  m : SgM w w5 g p s W cs
  xb : Whole W p9 88 (rc4 x)
  ow : OwnW W (p + 1) v rs
  ap : ∀ k, v.ownBlock = some k → k ≠ p9
  lt : p < p9
section
variable {w w5 W W2 : World} {g p p9 : Nat} {s s2 : InS} {cs : List Value} {x : Rw} {v : Value} {rs : List Rw}
theorem RvM.call (h : RvM w w5 g p s W cs p9 x v rs) (h5 : w5.heap.size ≤ g) (hgp : g < p) (k : W.grownBy W2 (some g)) (r : InR w W2 g s2) : RvM w w5 g p s2 W2 cs p9 x v rs :=
  ⟨h.m.call h5 hgp k r, h.xb.grown k (by have := h.lt; omega), h.ow.grown k (fun z hz e => by have := (h.ow.lt z hz).1; injection e with e; omega), h.ap, h.lt⟩
theorem RvM.set (h : RvM w w5 g p s W cs p9 x v rs) (hw : w.heap.size ≤ w5.heap.size) (h5 : w5.heap.size ≤ g) (hgp : g < p) (j : Nat) (u : Value) (y : Rw) (hs : (rc4 x).set j u = rc4 y) : RvM w w5 g p s (W.setCell ⟨p9, j, none⟩ u) cs p9 y v rs := by
  have gs := grown_set W p9 j u
  have := h.lt
  exact ⟨h.m.other hw h5 hgp gs (fun z e => by injection e with e; omega), hs ▸ h.xb.set j u, h.ow.grown gs (fun z hz e => by injection e with e; exact h.ap z hz e), h.ap, h.lt⟩
end
/-- One row more comes to the row's end. -/
theorem app_rw {W : World} {base : Nat} {A : Option Addr} {n c : Nat} {l : List Rw} (h : OwnW W base (.slice A n c) l) (hn : l.length = n) (x : Rw) (hl : n ≤ 1000) (hb : base ≤ W.heap.size) :
    ∃ A' c' W', (Builtin.append_ #[37, 37] 37 #[.slice A n c, .slice (some ⟨W.heap.size, 0, none⟩) 1 1]).run Tryz.prog (W.alloc (.cells #[.int .i64 x.cl, .int .i64 x.sq, .int .i64 x.co, .int .i64 x.va] 88)) = .ok (.slice A' (n + 1) c') W' ∧
      OwnW W' base (.slice A' (n + 1) c') (l ++ [x]) ∧ W.grownBy W' (Value.slice A n c).ownBlock := by
  have b1 := (Below.refl W.heap.size W).alloc (Nat.le_refl _) (.cells #[.int .i64 x.cl, .int .i64 x.sq, .int .i64 x.co, .int .i64 x.va] 88)
  obtain ⟨v', W', hrun, o2, g2⟩ := run_appW base _ l (h.below b1) _ 1 1 [x] (RdW.one W x #[.int .i64 x.cl, .int .i64 x.sq, .int .i64 x.co, .int .i64 x.va] rfl) (by omega) (Nat.le_trans hb b1.size)
  obtain ⟨A', c', rfl, _⟩ := o2.shape (n := n + 1) (by simp [hn])
  exact ⟨A', c', W', hrun, o2, grown_trans (grown_below b1 _) g2⟩
/-- The last step: nine cells come into the result's box. -/
theorem st_fin {w W : World} {z0 z1 z2 z3 z4 z5 z6 z7 z8 : Value} (h : Whole W w.heap.size 39 [z0, z1, z2, z3, z4, z5, z6, z7, z8]) (B : Below w.heap.size w W) (a0 a1 a2 a3 a4 a5 a6 a7 a8 : Value) :
    Whole (((((((((W.setCell ⟨w.heap.size, 0, none⟩ a0).setCell ⟨w.heap.size, 1, none⟩ a1).setCell ⟨w.heap.size, 2, none⟩ a2).setCell ⟨w.heap.size, 3, none⟩ a3).setCell ⟨w.heap.size, 4, none⟩ a4).setCell ⟨w.heap.size, 5, none⟩ a5).setCell ⟨w.heap.size, 6, none⟩ a6).setCell ⟨w.heap.size, 7, none⟩ a7).setCell ⟨w.heap.size, 8, none⟩ a8) w.heap.size 39 [a0, a1, a2, a3, a4, a5, a6, a7, a8] ∧ Below w.heap.size w (((((((((W.setCell ⟨w.heap.size, 0, none⟩ a0).setCell ⟨w.heap.size, 1, none⟩ a1).setCell ⟨w.heap.size, 2, none⟩ a2).setCell ⟨w.heap.size, 3, none⟩ a3).setCell ⟨w.heap.size, 4, none⟩ a4).setCell ⟨w.heap.size, 5, none⟩ a5).setCell ⟨w.heap.size, 6, none⟩ a6).setCell ⟨w.heap.size, 7, none⟩ a7).setCell ⟨w.heap.size, 8, none⟩ a8) ∧ W.grownBy (((((((((W.setCell ⟨w.heap.size, 0, none⟩ a0).setCell ⟨w.heap.size, 1, none⟩ a1).setCell ⟨w.heap.size, 2, none⟩ a2).setCell ⟨w.heap.size, 3, none⟩ a3).setCell ⟨w.heap.size, 4, none⟩ a4).setCell ⟨w.heap.size, 5, none⟩ a5).setCell ⟨w.heap.size, 6, none⟩ a6).setCell ⟨w.heap.size, 7, none⟩ a7).setCell ⟨w.heap.size, 8, none⟩ a8) (some w.heap.size) := by
  have gs := grown_set9 W w.heap.size a0 a1 a2 a3 a4 a5 a6 a7 a8
  exact ⟨(((((((((h.set 0 a0).set 1 a1).set 2 a2).set 3 a3).set 4 a4).set 5 a5).set 6 a6).set 7 a7).set 8 a8), below_grown B gs B.size (Nat.le_refl _), gs⟩
set_option maxRecDepth 20000 in
set_option maxHeartbeats 4000000 in
theorem refGetState_any (A : Option Addr) (n c : Nat) (b : List UInt8) (w : World) (hr : Rd w A n b) (hnc : n ≤ c) (hcm : c ≤ maxLen) :
    Calls Tryz.prog 30 #[.slice A n c] w (GotS w b) := by
  have KR := Whole.new w #[.int .i64 0, .slice none 0 0, .int .i64 0, .int .i64 0, .int .i64 0, .int .i64 0, .int .i64 0, .slice none 0 0, .slice none 0 0] 39
  have B0 := (Below.refl w.heap.size w).alloc (Nat.le_refl _) (.cells #[.int .i64 0, .slice none 0 0, .int .i64 0, .int .i64 0, .int .i64 0, .int .i64 0, .int .i64 0, .slice none 0 0, .slice none 0 0] 39)
  have ST := refReadText_any A n c b _ (hr.below B0) hnc hcm
  have HR := Lib.hid hr
  have HC := Lib.hid (And.intro hnc hcm)
  obtain ⟨t, k, er, ht⟩ : ∃ t k er, rtext b = (t, k, er) := ⟨_, _, _, rfl⟩
  have htl : t.length ≤ 65536 := by have := rtext_short b; rw [ht] at this; exact this
  rw [ht] at ST
  simp only at ST
  have HT := Lib.hid ht
  clear ht hr hnc hcm
  go_enter Tryz.func30, Tryz.ntmps30
  go_wp2_with fail
  generalize w.alloc (.cells #[.int .i64 0, .slice none 0 0, .int .i64 0, .int .i64 0, .int .i64 0, .int .i64 0, .int .i64 0, .slice none 0 0, .slice none 0 0] 39) = W at KR B0 ST ⊢
  refine ST.mono ?_
  rintro e w1 ⟨rfl, b1⟩
  have K1 := KR.below b1
  have B1 := B0.trans (b1.mono B0.size)
  obtain ⟨c2, w2, hconv, r2, b2, hc2, hc2m⟩ := conv_strc w1 t htl
  have K2 := K1.below b2
  have B2 := B1.trans (b2.mono B1.size)
  have SH := refGetHeap_any (some ⟨w1.heap.size, 0, none⟩) t.length c2 t w2 r2 hc2 hc2m
  clear ST KR B0 b1 K1 B1 r2 b2
  go_wp2_with fail
  refine SH.mono ?_
  rintro e w3 ⟨b3, hgot⟩
  have K3 := K2.below b3
  have B3 := B2.trans (b3.mono B2.size)
  have hlt2 := K2.lt
  clear SH K2 B2 hconv
  rcases hgot with ⟨H, ⟨Ah, nh, ch, Fh, mh, dh⟩, os, rfl, oh, hg⟩ | ⟨rfl, hg⟩
  case inr =>
    have HG := Lib.hid (show GetsS b none from by
      by_cases he : er = 0
      · exact getss_no_heap HT.out hg
      · exact getss_no_text (by rw [HT.out]; exact he))
    have bA := (Below.refl w3.heap.size w3).alloc (Nat.le_refl _) (.cells #[.int .i64 0, .slice none 0 0, .int .i64 0, .int .i64 0, .int .i64 0, .int .i64 0, .int .i64 0, .slice none 0 0] 26)
    have K4 := K3.below bA
    have B4 := B3.trans (bA.mono B3.size)
    simp only [zcs]
    have hh : ((60 : Int) != 0) = true := by decide
    clear K3 B3 b3 bA
    by_cases he : er = 0
    · have he2 : (er != 0) = false := by simp [he]
      clear he
      obtain ⟨p0, p1, p2, p3, p4, p5, p6, p7, p8⟩ := K4.nine
      have pf := K4.free
      have HF := Lib.hid (st_fin K4 B4 (.int .i64 0) (.slice none 0 0) (.int .i64 0) (.int .i64 0) (.int .i64 0) (.int .i64 0) (.int .i64 0) (.slice none 0 0) (.slice none 0 0))
      clear K4 B4
      go_wp2
      refine bodyPost_ret (results_c2 rfl _ _ _ _ rfl HF.out.1 Tryz.underlying39 (by kernel_rfl)) rfl ?_
      exact ⟨HF.out.2.1, .inr ⟨rfl, HG.out⟩⟩
    · have he2 : (er != 0) = true := by simp [he]
      clear he
      obtain ⟨p0, p1, p2, p3, p4, p5, p6, p7, p8⟩ := K4.nine
      have pf := K4.free
      have HF := Lib.hid (st_fin K4 B4 (.int .i64 0) (.slice none 0 0) (.int .i64 0) (.int .i64 0) (.int .i64 0) (.int .i64 0) (.int .i64 0) (.slice none 0 0) (.slice none 0 0))
      clear K4 B4
      go_wp2
      refine bodyPost_ret (results_c2 rfl _ _ _ _ rfl HF.out.1 Tryz.underlying39 (by kernel_rfl)) rfl ?_
      exact ⟨HF.out.2.1, .inr ⟨rfl, HG.out⟩⟩
  have bA := (Below.refl w3.heap.size w3).alloc (Nat.le_refl _) (.cells #[.int .i64 H.od, .slice Ah nh ch, .int .i64 H.nx, .int .i64 (tget H 0), .int .i64 (tget H 1), .int .i64 (tget H 2), .int .i64 (tget H 3), .slice Fh mh dh] 26)
  have KH := Whole.new w3 #[.int .i64 H.od, .slice Ah nh ch, .int .i64 H.nx, .int .i64 (tget H 0), .int .i64 (tget H 1), .int .i64 (tget H 2), .int .i64 (tget H 3), .slice Fh mh dh] 26
  have K4 := K3.below bA
  have B4 := B3.trans (bA.mono B3.size)
  have o4 := (oh.below bA).mono (base' := w.heap.size + 1) (by omega)
  have HGt := Lib.hid hg
  simp only [hval, hcs]
  clear K3 B3 b3 hg oh
  by_cases he : er = 0
  case neg =>
    have HG := Lib.hid (show GetsS b none from getss_no_text (by rw [HT.out]; exact he))
    have he2 : (er != 0) = true := by simp [he]
    clear he KH bA o4
    obtain ⟨p0, p1, p2, p3, p4, p5, p6, p7, p8⟩ := K4.nine
    have pf := K4.free
    have HF := Lib.hid (st_fin K4 B4 (.int .i64 0) (.slice none 0 0) (.int .i64 0) (.int .i64 0) (.int .i64 0) (.int .i64 0) (.int .i64 0) (.slice none 0 0) (.slice none 0 0))
    clear K4 B4
    go_wp2
    refine bodyPost_ret (results_c2 rfl _ _ _ _ rfl HF.out.1 Tryz.underlying39 (by kernel_rfl)) rfl ?_
    exact ⟨HF.out.2.1, .inr ⟨rfl, HG.out⟩⟩
  subst he
  go_upto_region 3 with (fail)
  have hs4 : (w3.alloc (.cells #[.int .i64 H.od, .slice Ah nh ch, .int .i64 H.nx, .int .i64 (tget H 0), .int .i64 (tget H 1), .int .i64 (tget H 2), .int .i64 (tget H 3), .slice Fh mh dh] 26)).heap.size = w3.heap.size + 1 := by simp
  obtain ⟨hb, hhb⟩ : ∃ hb, hb = w3.heap.size := ⟨_, rfl⟩
  rw [← hhb] at KH hs4 ⊢
  generalize w3.alloc (.cells #[.int .i64 H.od, .slice Ah nh ch, .int .i64 H.nx, .int .i64 (tget H 0), .int .i64 (tget H 1), .int .i64 (tget H 2), .int .i64 (tget H 3), .slice Fh mh dh] 26) = w5 at KH K4 B4 o4 bA hs4 ⊢
  clear bA hhb
  obtain ⟨s0, e0, hl0, hbe, hk4⟩ := rtext_one (l := b) (by rw [HT.out])
  have hkn : k ≤ n := by
    have h1 := HT.out
    rw [e0] at h1
    injection h1 with _ h1
    injection h1 with h1 _
    have := HR.out.len
    omega
  obtain ⟨Ac, hsl, hrl⟩ := run_cut (P := Tryz.prog) Tryz.underlying29 Tryz.infoU8 A n c k hkn HC.out.1
  have RC := Lib.hid (hrl w b HR.out)
  have HC7 := Lib.hid (show n - k ≤ c - k ∧ c - k ≤ maxLen from ⟨by have := HC.out.1; omega, by have := HC.out.2; omega⟩)
  generalize n - k = n7 at hsl RC HC7
  obtain ⟨c7, hc7⟩ : ∃ c7, c7 = c - k := ⟨_, rfl⟩
  rw [← hc7] at hsl HC7
  obtain ⟨q, hq⟩ : ∃ q, q = nx pnum (b.drop k, false) := ⟨_, rfl⟩
  have Hq := Lib.hid hq
  have nq := Lib.hid (show IsNum q.1 from by rw [hq]; exact nx_num _)
  clear e0 hl0 hbe hk4 hrl hc7 hkn HC hs4
  obtain ⟨d0, d1, d2, d3, d4, d5, d6, d7⟩ := KH.eight
  obtain ⟨g, hg⟩ : ∃ g, g = w5.heap.size := ⟨_, rfl⟩
  have KG := Whole.new w5 #[.slice Ac n7 c7, .bool false] 102
  have bG := (Below.refl w5.heap.size w5).alloc (Nat.le_refl _) (.cells #[.slice Ac n7 c7, .bool false] 102)
  have D6 := KH.below bG
  have s6 := Lib.hid (show (w5.alloc (.cells #[.slice Ac n7 c7, .bool false] 102)).heap.size = g + 1 by rw [hg]; simp)
  rw [← hg] at KG
  go_upto_region 6 with (fail)
  rw [← hg]
  clear d0 d1 d2 d3 d4 d5 d6 d7
  generalize w5.alloc (.cells #[.slice Ac n7 c7, .bool false] 102) = w6 at KG bG D6 s6 ⊢
  obtain ⟨d0, d1, d2, d3, d4, d5, d6, d7⟩ := D6.eight
  have KP := Whole.new w6 #[.int .i64 H.od, .slice Ah nh ch, .int .i64 H.nx, .int .i64 (tget H 0), .int .i64 (tget H 1), .int .i64 (tget H 2), .int .i64 (tget H 3), .slice Fh mh dh, .slice none 0 0] 39
  have bP := (Below.refl w6.heap.size w6).alloc (Nat.le_refl _) (.cells #[.int .i64 H.od, .slice Ah nh ch, .int .i64 H.nx, .int .i64 (tget H 0), .int .i64 (tget H 1), .int .i64 (tget H 2), .int .i64 (tget H 3), .slice Fh mh dh, .slice none 0 0] 39)
  have KG7 := KG.below bP
  obtain ⟨p, hp⟩ : ∃ p, p = w6.heap.size := ⟨_, rfl⟩
  have bT := bG.trans (bP.mono bG.size)
  have hgp : g < p := by have := s6.out; omega
  have hw5 : w.heap.size ≤ w5.heap.size := B4.size
  have h5g : w5.heap.size ≤ g := Nat.le_of_eq hg.symm
  rw [← hp] at KP
  go_upto_region 7 with (fail)
  rw [← hp]
  clear d0 d1 d2 d3 d4 d5 d6 d7
  generalize w6.alloc (.cells #[.int .i64 H.od, .slice Ah nh ch, .int .i64 H.nx, .int .i64 (tget H 0), .int .i64 (tget H 1), .int .i64 (tget H 2), .int .i64 (tget H 3), .slice Fh mh dh, .slice none 0 0] 39) = w7 at KP bP KG7 bT ⊢
  have M0 := Lib.hid (show SgM w w5 g p (b.drop k, false) w7 (hcs H ⟨Ah, nh, ch, Fh, mh, dh⟩ ++ [.slice none 0 0]) from
    ⟨KP, ⟨Ac, n7, c7, KG7, RC.out, B4.trans (bT.mono B4.size), by omega, HC7.out⟩, bT⟩)
  have HO4 := Lib.hid o4
  have HK4 := Lib.hid K4
  have HB4 := Lib.hid B4
  clear KG bG D6 s6 KP bP KG7 bT RC HC7 KH o4 K4 B4 hg hp hsl
  have S := inNumber_any g (b.drop k, false) w w7 M0.out.inr
  rw [← hq] at S
  clear hq
  go_wp2_with fail
  refine S.mono ?_
  rintro e w8 ⟨rfl, g8, r8⟩
  have M8 := Lib.hid (M0.out.call h5g hgp g8 r8)
  have q0 := nq.out.1
  have ST := Lib.hid (show RgRel w w5 g p q.1 H ⟨Ah, nh, ch, Fh, mh, dh⟩ q.2 (.int .i64 0) w8 from ⟨0, [], q.2, none, 0, rfl, q0, by omega, rfl, M8.out, OwnW.nil⟩)
  clear S g8 r8 M0 M8 q0
  go_upto_block 0 with (fail)
  go_cut [12] (fun v wc => ∃ (j : Nat) (rs : List Rw) (lr : List UInt8) (bd : Bool) (Ar : Option Addr) (cr : Nat), ((j : Int) ≤ q.1 ∧ j ≤ 5 ∧ rep irow j q.2 = (rs, (lr, bd)) ∧ SgM w w5 g p (lr, bd) wc (hcs H ⟨Ah, nh, ch, Fh, mh, dh⟩ ++ [.slice Ar rs.length cr]) ∧ OwnW wc (p + 1) (.slice Ar rs.length cr) rs) ∧ ¬ ((j : Int) < q.1 ∧ j ≤ 4 ∧ bd = false))
  case first =>
    go_wp2_with fail
    go_loopw [12] (RgRel w w5 g p q.1 H ⟨Ah, nh, ch, Fh, mh, dh⟩ q.2) (fun i _ => 5 - (intOf i).toNat)
    case atStart => exact ST.out
    case round =>
      clear ST
      obtain ⟨j, rs, st, Ar, cr, rfl, hjq, hj5, hrep, hm, hown⟩ := hrel
      have HM := Lib.hid hm
      have HW := Lib.hid hown
      have HP := Lib.hid hrep
      obtain ⟨Ai, ni, ci, _, x1, _⟩ := hm.inr.cells
      obtain ⟨lr, bd⟩ := st
      simp only at x1
      have Hjq := Lib.hid hjq
      clear hm hown hrep hjq
      by_cases h1 : (j : Int) < q.1
      case neg =>
        have hd1 : decide ((j : Int) < q.1) = false := decide_eq_false h1
        have HE := Lib.hid (show ¬ ((j : Int) < q.1 ∧ j ≤ 4 ∧ bd = false) from fun z => h1 z.1)
        clear h1
        go_wp2_with fail
        go_meet
        exact ⟨j, rs, lr, bd, Ar, cr, ⟨Hjq.out, hj5, HP.out, HM.out, HW.out⟩, HE.out⟩
      have hd1 : decide ((j : Int) < q.1) = true := decide_eq_true h1
      by_cases h2 : j ≤ 4
      case neg =>
        have hd2 : decide ((j : Int) ≤ 4) = false := decide_eq_false (by omega)
        have HE := Lib.hid (show ¬ ((j : Int) < q.1 ∧ j ≤ 4 ∧ bd = false) from fun z => h2 z.2.1)
        clear h2
        go_wp2_with fail
        go_meet
        exact ⟨j, rs, lr, bd, Ar, cr, ⟨Hjq.out, hj5, HP.out, HM.out, HW.out⟩, HE.out⟩
      have hd2 : decide ((j : Int) ≤ 4) = true := decide_eq_true (by omega)
      cases bd with
      | true =>
        have HE := Lib.hid (show ¬ ((j : Int) < q.1 ∧ j ≤ 4 ∧ true = false) from fun z => by cases z.2.2)
        go_wp2_with fail
        go_meet
        exact ⟨j, rs, lr, true, Ar, cr, ⟨Hjq.out, hj5, HP.out, HM.out, HW.out⟩, HE.out⟩
      | false =>
      obtain ⟨e1, he1⟩ : ∃ x, x = nx pnum (lr, false) := ⟨_, rfl⟩
      obtain ⟨e2, he2⟩ : ∃ x, x = nx pnum e1.2 := ⟨_, rfl⟩
      obtain ⟨e3, he3⟩ : ∃ x, x = nx pnum e2.2 := ⟨_, rfl⟩
      obtain ⟨e4, he4⟩ : ∃ x, x = nx pint e3.2 := ⟨_, rfl⟩
      have HS := Lib.hid (show rep irow (j + 1) q.2 = (rs ++ [⟨e1.1, e2.1, e3.1, e4.1⟩], e4.2) from by
        show ((rep irow j q.2).1 ++ [(irow (rep irow j q.2).2).1], (irow (rep irow j q.2).2).2) = _
        rw [HP.out]
        unfold irow
        simp only
        rw [← he1, ← he2, ← he3, ← he4])
      have S1 := fun W (r : InR w W g (lr, false)) => inNumber_any g (lr, false) w W r
      have S2 := fun W (r : InR w W g e1.2) => inNumber_any g e1.2 w W r
      have S3 := fun W (r : InR w W g e2.2) => inNumber_any g e2.2 w W r
      have S4 := fun W (r : InR w W g e3.2) => inInt_any g e3.2 w W r
      rw [← he1] at S1
      rw [← he2] at S2
      rw [← he3] at S3
      rw [← he4] at S4
      have hol := Lib.hid (show rs.length = j from by
        have h1 := rep_len (f := irow) q.2 j
        rw [HP.out] at h1
        exact h1)
      clear he1 he2 he3 he4
      obtain ⟨p9, hp9⟩ : ∃ p9, p9 = wr.heap.size := ⟨_, rfl⟩
      have hpp : p < p9 := by have := HM.out.sb.lt; omega
      have M1 := Lib.hid (show RvM w w5 g p (lr, false) (wr.alloc (.cells #[.int .i64 0, .int .i64 0, .int .i64 0, .int .i64 0] 88)) (hcs H ⟨Ah, nh, ch, Fh, mh, dh⟩ ++ [.slice Ar rs.length cr]) p9 ⟨0, 0, 0, 0⟩ (.slice Ar rs.length cr) rs from by
        have bA := (Below.refl wr.heap.size wr).alloc (Nat.le_refl _) (.cells #[.int .i64 0, .int .i64 0, .int .i64 0, .int .i64 0] 88)
        exact ⟨HM.out.other hw5 h5g hgp (grown_below bA none) (fun z e => by cases e), by rw [hp9]; exact Whole.new wr #[.int .i64 0, .int .i64 0, .int .i64 0, .int .i64 0] 88, HW.out.below bA, fun z hz e => by have := (HW.out.lt z hz).2; omega, hpp⟩)
      clear HM HW
      go_upto_region 12 with (fail)
      rw [← hp9]
      generalize wr.alloc (.cells #[.int .i64 0, .int .i64 0, .int .i64 0, .int .i64 0] 88) = W1 at M1 ⊢
      clear hp9 x1
      obtain ⟨nr, hnr⟩ : ∃ nr, nr = rs.length := ⟨_, rfl⟩
      rw [← hnr] at M1
      have Hnr := Lib.hid hnr
      clear hnr
      go_wp2_with fail
      refine (S1 W1 M1.out.m.inr).mono ?_
      rintro e u1 ⟨rfl, g1, r1⟩
      have N1 := M1.out.call h5g hgp g1 r1
      have M2 := Lib.hid (N1.set hw5 h5g hgp 0 (.int .i64 e1.1) ⟨e1.1, 0, 0, 0⟩ rfl)
      have c0 : u1.cell? ⟨p9, 0, none⟩ = some (.int .i64 0) := N1.xb.cell 0
      have z0 := N1.xb.free 0
      clear N1 g1 r1 M1 S1
      go_wp2_with fail
      generalize u1.setCell ⟨p9, 0, none⟩ (.int .i64 e1.1) = W2 at M2 ⊢
      clear c0 z0
      refine (S2 W2 M2.out.m.inr).mono ?_
      rintro e u2 ⟨rfl, g1, r1⟩
      have N1 := M2.out.call h5g hgp g1 r1
      have M3 := Lib.hid (N1.set hw5 h5g hgp 1 (.int .i64 e2.1) ⟨e1.1, e2.1, 0, 0⟩ rfl)
      have c0 : u2.cell? ⟨p9, 1, none⟩ = some (.int .i64 0) := N1.xb.cell 1
      have z0 := N1.xb.free 1
      clear N1 g1 r1 M2 S2
      go_wp2_with fail
      generalize u2.setCell ⟨p9, 1, none⟩ (.int .i64 e2.1) = W3 at M3 ⊢
      clear c0 z0
      refine (S3 W3 M3.out.m.inr).mono ?_
      rintro e u3 ⟨rfl, g1, r1⟩
      have N1 := M3.out.call h5g hgp g1 r1
      have M4 := Lib.hid (N1.set hw5 h5g hgp 2 (.int .i64 e3.1) ⟨e1.1, e2.1, e3.1, 0⟩ rfl)
      have c0 : u3.cell? ⟨p9, 2, none⟩ = some (.int .i64 0) := N1.xb.cell 2
      have z0 := N1.xb.free 2
      clear N1 g1 r1 M3 S3
      go_wp2_with fail
      generalize u3.setCell ⟨p9, 2, none⟩ (.int .i64 e3.1) = W4 at M4 ⊢
      clear c0 z0
      refine (S4 W4 M4.out.m.inr).mono ?_
      rintro e u4 ⟨rfl, g1, r1⟩
      have N1 := M4.out.call h5g hgp g1 r1
      have M5 := Lib.hid (N1.set hw5 h5g hgp 3 (.int .i64 e4.1) ⟨e1.1, e2.1, e3.1, e4.1⟩ rfl)
      have c0 : u4.cell? ⟨p9, 3, none⟩ = some (.int .i64 0) := N1.xb.cell 3
      have z0 := N1.xb.free 3
      clear N1 g1 r1 M4 S4
      go_upto_region 17 with (fail)
      generalize u4.setCell ⟨p9, 3, none⟩ (.int .i64 e4.1) = W5 at M5 ⊢
      clear c0 z0
      have N5 := M5.out
      obtain ⟨y0, y1, y2, y3⟩ := (show Whole W5 p9 88 [.int .i64 e1.1, .int .i64 e2.1, .int .i64 e3.1, .int .i64 e4.1] from N5.xb).four
      have y8 : W5.cell? ⟨p, 8, none⟩ = some (.slice Ar nr cr) := N5.m.sb.cell 8
      obtain ⟨A7, c8, W7, hap, O7, g7⟩ := app_rw N5.ow Hnr.out.symm ⟨e1.1, e2.1, e3.1, e4.1⟩ (by have := Hnr.out; have := hol.out; omega) (by have := N5.m.sb.lt; omega)
      have N7 := N5.m.other hw5 h5g hgp g7 (fun z e => by have := (N5.ow.lt z e).1; omega)
      have y9 : W7.cell? ⟨p, 8, none⟩ = some (.slice Ar nr cr) := N7.sb.cell 8
      have z9 := N7.sb.free 8
      have gs := grown_set W7 p 8 (.slice A7 (nr + 1) c8)
      have N8 := N7.set hw5 h5g hgp 8 (.slice A7 (nr + 1) c8)
      have O8 := O7.grown gs (fun z hz e => by have := (O7.lt z hz).1; injection e with e; omega)
      have hln : (rs ++ [(⟨e1.1, e2.1, e3.1, e4.1⟩ : Rw)]).length = nr + 1 := by rw [List.length_append, ← Hnr.out]; rfl
      have HF := Lib.hid (show RgRel w w5 g p q.1 H ⟨Ah, nh, ch, Fh, mh, dh⟩ q.2 (.int .i64 ((j + 1 : Nat) : Int)) (W7.setCell ⟨p, 8, none⟩ (.slice A7 (nr + 1) c8)) from
        ⟨j + 1, rs ++ [⟨e1.1, e2.1, e3.1, e4.1⟩], e4.2, A7, c8, rfl, by omega, by omega, HS.out, by rw [hln]; exact N8, by rw [hln]; exact O8⟩)
      obtain ⟨nr1, hnr1⟩ : ∃ nr1, nr1 = nr + 1 := ⟨_, rfl⟩
      rw [← hnr1] at hap HF
      clear N5 N7 N8 O7 O8 g7 gs hln hnr1 M5
      go_wp2_with (at_builtin; refine wpList_append_run hap rfl _ _ rfl rfl rfl rfl ?_)
      go_roundw
      case rel => first | exact HF.out | (have h9 := HF.out; push_cast at h9; exact h9)
      case measure => simp [intOf]; omega
  case rest =>
    obtain ⟨j, rs, lr, bd, Ar, cr, ⟨hjq, hj5, hrep, hm, hown⟩, hE⟩ := hcut
    clear ST
    have hol := Lib.hid (show rs.length = j from by
      have h1 := rep_len (f := irow) q.2 j
      rw [hrep] at h1
      exact h1)
    obtain ⟨nr, hnr⟩ : ∃ nr, nr = rs.length := ⟨_, rfl⟩
    rw [← hnr] at hm hown
    have Hnr := Lib.hid hnr
    have HM := Lib.hid hm
    have HW := Lib.hid hown
    have HP := Lib.hid hrep
    have HE := Lib.hid hE
    have Hj5 := Lib.hid hj5
    have Hjq := Lib.hid hjq
    obtain ⟨Ai, ni, ci, x0, x1, hni⟩ := hm.inr.cells
    simp only at x1 hni
    have Hni := Lib.hid hni
    obtain ⟨s0, s1, s2, s3, s4, s5, s6, s7, s8⟩ := (show Whole wc p 39 [.int .i64 H.od, .slice Ah nh ch, .int .i64 H.nx, .int .i64 (tget H 0), .int .i64 (tget H 1), .int .i64 (tget H 2), .int .i64 (tget H 3), .slice Fh mh dh, .slice Ar nr cr] from hm.sb).nine
    have hRT : RdT wc ⟨⟨Ah, nh, ch, Fh, mh, dh⟩, Ar, nr, cr⟩ ⟨H, rs⟩ := ⟨(HO4.out.below hm.bel).rd, by
      obtain ⟨A', c', e, _, _, r⟩ := hown.shape Hnr.out.symm
      injection e with e1 _ _
      rw [e1]
      exact r⟩
    have SR := refRightS_any ⟨⟨Ah, nh, ch, Fh, mh, dh⟩, Ar, nr, cr⟩ ⟨H, rs⟩ wc hRT ⟨rightI_small HGt.out.1.right, by have := hol.out; simp only; omega⟩
    simp only [sval, scs, hcs, List.cons_append, List.nil_append] at SR
    clear hm hown hrep hE hj5 hjq hni hnr hRT
    obtain ⟨W8, hW8⟩ : ∃ W8, W8 = wc := ⟨_, rfl⟩
    subst hW8
    go_upto_region 18 with (fail)
    go_cut [104] (fun v wd => Below W8.heap.size W8 wd ∧ ((v = .bool true ∧ (bd = true ∨ lr ≠ [] ∨ q.1 ≠ (j : Int) ∨ ¬ RightS ⟨H, rs⟩)) ∨ (v = .bool false ∧ bd = false ∧ lr = [] ∧ q.1 = (j : Int) ∧ RightS ⟨H, rs⟩)))
    case first =>
      cases bd with
      | true =>
        go_wp2_with fail
        go_meet
        exact ⟨Below.refl _ _, .inl ⟨rfl, .inl trivial⟩⟩
      | false =>
      by_cases hn0 : 0 < ni
      · have hd1 : decide ((0 : Int) < (ni : Int)) = true := decide_eq_true (by omega)
        have hd2 : decide (0 < ni) = true := decide_eq_true hn0
        have HN := Lib.hid (show lr ≠ [] from fun e => by have := Hni.out; rw [e] at this; simp at this; omega)
        go_wp2_with fail
        go_meet
        exact ⟨Below.refl _ _, .inl ⟨rfl, .inr (.inl HN.out)⟩⟩
      · obtain rfl : ni = 0 := by omega
        have HN := Lib.hid (List.eq_nil_of_length_eq_zero Hni.out)
        have hd1 : decide ((0 : Int) < ((0 : Nat) : Int)) = false := by simp
        have hd2 : decide ((0 : Int) < 0) = false := by simp
        by_cases hqk : q.1 = (nr : Int)
        · have hne : (q.1 != (nr : Int)) = false := by simp [hqk]
          have Hqk := Lib.hid (show q.1 = (j : Int) from by rw [hqk, Hnr.out, hol.out])
          clear hqk
          by_cases hRt : RightS ⟨H, rs⟩
          · rw [decide_eq_true hRt] at SR
            have HRt := Lib.hid hRt
            clear hRt
            go_wp2_with fail
            refine SR.mono ?_
            rintro e wz ⟨rfl, bz⟩
            have Bz := Lib.hid bz
            clear SR x0 x1 s0 s1 s2 s3 s4 s5 s6 s7 s8 bz
            go_wp2_with fail
            go_meet
            exact ⟨Bz.out, .inr ⟨rfl, trivial, HN.out, Hqk.out, HRt.out⟩⟩
          · rw [decide_eq_false hRt] at SR
            have HRt := Lib.hid hRt
            clear hRt
            go_wp2_with fail
            refine SR.mono ?_
            rintro e wz ⟨rfl, bz⟩
            have Bz := Lib.hid bz
            clear SR x0 x1 s0 s1 s2 s3 s4 s5 s6 s7 s8 bz
            go_wp2_with fail
            go_meet
            exact ⟨Bz.out, .inl ⟨rfl, .inr (.inr (.inr HRt.out))⟩⟩
        · have hne : (q.1 != (nr : Int)) = true := by simp [hqk]
          have Hqk := Lib.hid (show q.1 ≠ (j : Int) from fun e => hqk (by rw [e, Hnr.out, hol.out]))
          clear hqk
          go_wp2_with fail
          go_meet
          exact ⟨Below.refl _ _, .inl ⟨rfl, .inr (.inr (.inl Hqk.out))⟩⟩
    case rest =>
      rename World => wd
      obtain ⟨bd8, hcases⟩ := hcut
      have M9 := Lib.hid (HM.out.other hw5 h5g hgp (grown_below bd8 none) (fun z e => by cases e))
      have W9 := Lib.hid (HW.out.below bd8)
      have K9 := Lib.hid (HK4.out.below M9.out.bel)
      have O9 := Lib.hid (HO4.out.below M9.out.bel)
      have B9 := Lib.hid (HB4.out.trans (M9.out.bel.mono HB4.out.size))
      clear x0 x1 s0 s1 s2 s3 s4 s5 s6 s7 s8 SR bd8
      obtain ⟨p0, p1, p2, p3, p4, p5, p6, p7, p8⟩ := K9.out.nine
      have pf := K9.out.free
      rcases hcases with ⟨rfl, hR⟩ | ⟨rfl, hb0, hl0, hqk, hRt⟩
      · have HG := Lib.hid (show GetsS b none from states_none HT.out HGt.out Hq.out HP.out Hjq.out HE.out hR)
        have HF := Lib.hid (st_fin K9.out B9.out (.int .i64 0) (.slice none 0 0) (.int .i64 0) (.int .i64 0) (.int .i64 0) (.int .i64 0) (.int .i64 0) (.slice none 0 0) (.slice none 0 0))
        clear hR
        go_wp2
        refine bodyPost_ret (results_c2 rfl _ _ _ _ rfl HF.out.1 Tryz.underlying39 (by kernel_rfl)) rfl ?_
        exact ⟨HF.out.2.1, .inr ⟨rfl, HG.out⟩⟩
      · subst hb0 hl0
        have HG := Lib.hid (show GetsS b (some ⟨H, rs⟩) from states_some HT.out HGt.out Hq.out HP.out hqk Hj5.out hRt.2)
        obtain ⟨s0, s1, s2, s3, s4, s5, s6, s7, s8⟩ := (show Whole _ p 39 [.int .i64 H.od, .slice Ah nh ch, .int .i64 H.nx, .int .i64 (tget H 0), .int .i64 (tget H 1), .int .i64 (tget H 2), .int .i64 (tget H 3), .slice Fh mh dh, .slice Ar nr cr] from M9.out.sb).nine
        have fin := st_fin K9.out B9.out (.int .i64 H.od) (.slice Ah nh ch) (.int .i64 H.nx) (.int .i64 (tget H 0)) (.int .i64 (tget H 1)) (.int .i64 (tget H 2)) (.int .i64 (tget H 3)) (.slice Fh mh dh) (.slice Ar nr cr)
        have HF := Lib.hid fin
        have HO := Lib.hid ((OwnSt.grownI (base := w.heap.size + 1) (r := w.heap.size) (s := ⟨⟨Ah, nh, ch, Fh, mh, dh⟩, Ar, nr, cr⟩) (os := os) (S := ⟨H, rs⟩) ⟨O9.out, W9.out.mono (by omega)⟩ fin.2.2 (by omega)).mono (base' := w.heap.size) (by omega))
        clear fin hqk hRt
        go_wp2
        refine bodyPost_ret (results_c2 rfl _ _ _ _ rfl HF.out.1 Tryz.underlying39 (by kernel_rfl)) rfl ?_
        exact ⟨HF.out.2.1, .inl ⟨⟨H, rs⟩, ⟨⟨Ah, nh, ch, Fh, mh, dh⟩, Ar, nr, cr⟩, os, rfl, HO.out, HG.out⟩⟩
end Go.Proofs.YtlnmmklpccppmaaGreatDoor
