/-
  The document's disk (tumulusref07): its memory, Full, there, step, Write, Flush, Read, Stop, Crash: none stops, and what it leaves is such a disk again. Contracts; of its answers nothing is said but by Full.
-/
import Derived.Test.YtoookmkfaihbpaaPdArg
import Derived.Deep.RegionHeld3
namespace Go.Proofs.Ytoookmkfaihbpaa
open Go.RowKit

def lenOf : Value → Nat
  | .slice _ n _ => n
  | _ => 0
def FullRel (b : List UInt8) (w : World) (v : Value) (wr : World) : Prop :=
  ∃ k : Nat, (k = 0 ∨ b.length + k ≤ 64) ∧ Own 5 wr w.heap.size v (b ++ List.replicate k 0) ∧ Below w.heap.size w wr
def FullPost (w : World) (b : List UInt8) (e : Ending) (w' : World) : Prop := e = .returned (.string ⟨(full b).toArray⟩) ∧ Below w.heap.size w w'
set_option maxRecDepth 20000 in
set_option maxHeartbeats 1000000 in
theorem full_any {A : Option Addr} {n c : Nat} {b : List UInt8} {w : World} (hb : Rd w A n b) (hn : n ≤ 70368744177664) : Calls Try.prog 18 #[.slice A n c] w (FullPost w b) := by
  obtain ⟨v1, w1, hap, hown1, hg1, _⟩ := run_app (P := Try.prog) w.heap.size 23 23 5 Try.underlying23 Try.infoU8 (.slice none 0 0) [] Own.nil A n c b hb (by simp; omega) (Nat.le_refl _)
  rw [List.nil_append] at hown1
  have hb1 := below_app (Below.refl w.heap.size w) (Own.nil (U := 5)) hg1 (Nat.le_refl _)
  have hl := hb.len
  go_enter Try.func18, Try.ntmps18
  go_wp2_with (at_builtin; refine wpList_append_run hap rfl _ _ rfl rfl rfl rfl ?_)
  clear hap hg1
  go_loopw [3] (FullRel b w) (fun v _ => 64 - lenOf v)
  case atStart => exact ⟨0, .inl rfl, by simpa using hown1, hb1⟩
  case round =>
    clear hown1 hb1
    obtain ⟨k, hk, hown, hbw⟩ := hrel
    have hl2 : (b ++ List.replicate k 0).length = n + k := by rw [List.length_append, hl, List.length_replicate]
    obtain ⟨A', c', hv, hlc, hcm, hrd⟩ := hown.shapeN hl2
    have Hl := Lib.hid hl
    by_cases hlt : n + k < 64
    · have hsz := hbw.size
      obtain ⟨v2, w2, hap, hown2, hb2⟩ := run_app_one (P := Try.prog) w.heap.size 23 23 5 Try.underlying23 Try.infoU8 _ _ hown (.int .u8 0) 0 rfl (by omega) hsz
      rw [List.append_assoc] at hown2
      rw [hv] at hap
      subst hv
      have hl3 : (b ++ (List.replicate k 0 ++ [0])).length = n + k + 1 := by simp [Hl.out]; omega
      obtain ⟨A3, c3, hv3, _⟩ := hown2.shapeN hl3
      have H2 := Lib.hid hown2
      have HB := Lib.hid (hbw.trans hb2)
      have H3 := Lib.hid hv3
      clear hl hl2 hl3 hown hown2 hb2 hbw hv3 hrd
      have hlt' : ((n + k : Nat) : Int) < 64 := by omega
      go_wp2_with (at_builtin; refine wpList_append_run hap rfl _ _ rfl rfl rfl rfl ?_)
      go_roundw
      case rel => exact ⟨k + 1, .inr (by rw [Hl.out]; omega), by rw [List.replicate_succ']; exact H2.out, HB.out⟩
      case measure => rw [H3.out]; simp [lenOf]; omega
    · subst hv
      have hc1 := hrd.conv (P := Try.prog) c' 23 5 9 Try.underlying23 Try.underlying5 Try.underlying9
      have e1 : b ++ List.replicate k 0 = full b := by
        unfold full
        rw [hl]
        congr 2
        rcases hk with h | h <;> omega
      rw [e1] at hc1
      have HB := Lib.hid hbw
      clear hl hl2 hown hbw hrd e1 Hl hb
      have hlt' : ¬ ((n + k : Nat) : Int) < 64 := by omega
      go_wp2
      go_ret
      exact ⟨rfl, HB.out⟩

/-! ### The document's disk in memory -/
def StrRow (w : World) (g n : Nat) : Prop := ∃ cs, Whole w g 9 cs ∧ ∀ j, j < n → ∃ s, cs[j]? = some (.string s)
def TruRow (w : World) (g n : Nat) : Prop := ∃ cs, Whole w g 4 cs ∧ ∀ j, j < n → ∃ b, cs[j]? = some (.bool b)
/-- The blocks of the document's disk. -/
def ms (p g1 g2 g3 k : Nat) : Prop := k = p ∨ k = g1 ∨ k = g2 ∨ k = g3
def mcs (n g1 g2 g3 c1 c2 c3 : Nat) (dn st : Bool) (lf : Int) : List Value := [.slice (some ⟨g1, 0, none⟩) n c1, .slice (some ⟨g2, 0, none⟩) n c2, .slice (some ⟨g3, 0, none⟩) n c3, .bool dn, .bool st, .int .i64 lf]
structure MAt (w : World) (n p g1 g2 g3 : Nat) : Prop where
  ptr : ∃ (c1 c2 c3 : Nat) (dn st : Bool) (lf : Int), Whole w p 56 (mcs n g1 g2 g3 c1 c2 c3 dn st lf)
  now : StrRow w g1 n
  safe : StrRow w g2 n
  dirty : TruRow w g3 n
  most : n ≤ 4096
section
variable {w w' : World} {n p g1 g2 g3 g : Nat}
theorem StrRow.keep (h : StrRow w g n) (hk : w'.heap[g]? = w.heap[g]?) : StrRow w' g n := by
  obtain ⟨cs, hw, hc⟩ := h
  exact ⟨cs, hw.keep hk, hc⟩
theorem TruRow.keep (h : TruRow w g n) (hk : w'.heap[g]? = w.heap[g]?) : TruRow w' g n := by
  obtain ⟨cs, hw, hc⟩ := h
  exact ⟨cs, hw.keep hk, hc⟩
theorem StrRow.lt (h : StrRow w g n) : g < w.heap.size := by obtain ⟨cs, hw, _⟩ := h; exact hw.lt
theorem TruRow.lt (h : TruRow w g n) : g < w.heap.size := by obtain ⟨cs, hw, _⟩ := h; exact hw.lt
theorem StrRow.cell (h : StrRow w g n) {j : Nat} (hj : j < n) : ∃ s, w.cell? ⟨g, j, none⟩ = some (.string s) := by
  obtain ⟨cs, hw, hc⟩ := h
  obtain ⟨s, hs⟩ := hc j hj
  exact ⟨s, by rw [hw.cell, hs]⟩
theorem TruRow.cell (h : TruRow w g n) {j : Nat} (hj : j < n) : ∃ s, w.cell? ⟨g, j, none⟩ = some (.bool s) := by
  obtain ⟨cs, hw, hc⟩ := h
  obtain ⟨s, hs⟩ := hc j hj
  exact ⟨s, by rw [hw.cell, hs]⟩
theorem StrRow.free (h : StrRow w g n) (j : Nat) : w.frozen? ⟨g, j, none⟩ = false := by obtain ⟨cs, hw, _⟩ := h; exact hw.free j
theorem TruRow.free (h : TruRow w g n) (j : Nat) : w.frozen? ⟨g, j, none⟩ = false := by obtain ⟨cs, hw, _⟩ := h; exact hw.free j
theorem StrRow.set (h : StrRow w g n) (g' i : Nat) (s : ByteArray) : StrRow (w.setCell ⟨g', i, none⟩ (.string s)) g n := by
  by_cases e : g = g'
  · subst e
    obtain ⟨cs, hw, hc⟩ := h
    refine ⟨_, hw.set i (.string s), fun j hj => ?_⟩
    obtain ⟨s', hs⟩ := hc j hj
    have hl := (List.getElem?_eq_some_iff.1 hs).1
    by_cases e : i = j
    · subst e
      exact ⟨s, by rw [List.getElem?_set_self hl]⟩
    · exact ⟨s', by rw [List.getElem?_set_ne e, hs]⟩
  · exact h.keep (heap_setCell_other w ⟨g', i, none⟩ g _ e)
theorem TruRow.set (h : TruRow w g n) (i : Nat) (b : Bool) : TruRow (w.setCell ⟨g, i, none⟩ (.bool b)) g n := by
  obtain ⟨cs, hw, hc⟩ := h
  refine ⟨_, hw.set i (.bool b), fun j hj => ?_⟩
  obtain ⟨s', hs⟩ := hc j hj
  have hl := (List.getElem?_eq_some_iff.1 hs).1
  by_cases e : i = j
  · subst e
    exact ⟨b, by rw [List.getElem?_set_self hl]⟩
  · exact ⟨s', by rw [List.getElem?_set_ne e, hs]⟩
theorem MAt.keep (h : MAt w n p g1 g2 g3) (hk : ∀ k, ms p g1 g2 g3 k → w'.heap[k]? = w.heap[k]?) : MAt w' n p g1 g2 g3 := by
  obtain ⟨⟨c1, c2, c3, dn, st, lf, hp⟩, h1, h2, h3, h4⟩ := h
  exact ⟨⟨c1, c2, c3, dn, st, lf, hp.keep (hk p (.inl rfl))⟩, h1.keep (hk g1 (.inr (.inl rfl))), h2.keep (hk g2 (.inr (.inr (.inl rfl)))), h3.keep (hk g3 (.inr (.inr (.inr rfl)))), h4⟩
theorem MAt.lt (h : MAt w n p g1 g2 g3) {k : Nat} (hk : ms p g1 g2 g3 k) : k < w.heap.size := by
  obtain ⟨⟨c1, c2, c3, dn, st, lf, hp⟩, h1, h2, h3, h4⟩ := h
  rcases hk with rfl | rfl | rfl | rfl
  · exact hp.lt
  · exact h1.lt
  · exact h2.lt
  · exact h3.lt
theorem MAt.oth {X : Nat → Prop} (h : MAt w n p g1 g2 g3) (k : Oth X w w') (hX : ∀ j, ms p g1 g2 g3 j → ¬ X j) : MAt w' n p g1 g2 g3 := h.keep fun j hj => k.block j (h.lt hj) (hX j hj)
theorem MAt.below (h : MAt w n p g1 g2 g3) (k : Below w.heap.size w w') : MAt w' n p g1 g2 g3 := h.keep fun j hj => k.block j (h.lt hj)
theorem MAt.alloc (h : MAt w n p g1 g2 g3) (o : Obj) : MAt (w.alloc o) n p g1 g2 g3 := h.below ((Below.refl _ _).alloc (Nat.le_refl _) o)
theorem MAt.drew (h : MAt w n p g1 g2 g3) : MAt w.drew n p g1 g2 g3 := h.keep fun _ _ => rfl
theorem MAt.ne1 (h : MAt w n p g1 g2 g3) : p ≠ g1 := by
  obtain ⟨⟨c1, c2, c3, dn, st, lf, hp⟩, ⟨cs, h1, _⟩, _⟩ := h
  exact hp.ne h1 (by decide)
theorem MAt.ne2 (h : MAt w n p g1 g2 g3) : p ≠ g2 := by
  obtain ⟨⟨c1, c2, c3, dn, st, lf, hp⟩, _, ⟨cs, h1, _⟩, _⟩ := h
  exact hp.ne h1 (by decide)
theorem MAt.ne3 (h : MAt w n p g1 g2 g3) : p ≠ g3 := by
  obtain ⟨⟨c1, c2, c3, dn, st, lf, hp⟩, _, _, ⟨cs, h1, _⟩, _⟩ := h
  exact hp.ne h1 (by decide)
theorem MAt.ne13 (h : MAt w n p g1 g2 g3) : g1 ≠ g3 := by
  obtain ⟨_, ⟨cs, h1, _⟩, _, ⟨cs', h2, _⟩, _⟩ := h
  exact h1.ne h2 (by decide)
theorem MAt.ne23 (h : MAt w n p g1 g2 g3) : g2 ≠ g3 := by
  obtain ⟨_, _, ⟨cs, h1, _⟩, ⟨cs', h2, _⟩, _⟩ := h
  exact h1.ne h2 (by decide)
theorem MAt.setDown (h : MAt w n p g1 g2 g3) (b : Bool) : MAt (w.setCell ⟨p, 3, none⟩ (.bool b)) n p g1 g2 g3 := by
  have e1 := h.ne1
  have e2 := h.ne2
  have e3 := h.ne3
  obtain ⟨⟨c1, c2, c3, dn, st, lf, hp⟩, h1, h2, h3, h4⟩ := h
  exact ⟨⟨c1, c2, c3, b, st, lf, hp.set 3 (.bool b)⟩, h1.keep (heap_setCell_other w _ _ _ e1.symm), h2.keep (heap_setCell_other w _ _ _ e2.symm), h3.keep (heap_setCell_other w _ _ _ e3.symm), h4⟩
theorem MAt.setStops (h : MAt w n p g1 g2 g3) (b : Bool) : MAt (w.setCell ⟨p, 4, none⟩ (.bool b)) n p g1 g2 g3 := by
  have e1 := h.ne1
  have e2 := h.ne2
  have e3 := h.ne3
  obtain ⟨⟨c1, c2, c3, dn, st, lf, hp⟩, h1, h2, h3, h4⟩ := h
  exact ⟨⟨c1, c2, c3, dn, b, lf, hp.set 4 (.bool b)⟩, h1.keep (heap_setCell_other w _ _ _ e1.symm), h2.keep (heap_setCell_other w _ _ _ e2.symm), h3.keep (heap_setCell_other w _ _ _ e3.symm), h4⟩
theorem MAt.setLeft (h : MAt w n p g1 g2 g3) (b : Int) : MAt (w.setCell ⟨p, 5, none⟩ (.int .i64 b)) n p g1 g2 g3 := by
  have e1 := h.ne1
  have e2 := h.ne2
  have e3 := h.ne3
  obtain ⟨⟨c1, c2, c3, dn, st, lf, hp⟩, h1, h2, h3, h4⟩ := h
  exact ⟨⟨c1, c2, c3, dn, st, b, hp.set 5 (.int .i64 b)⟩, h1.keep (heap_setCell_other w _ _ _ e1.symm), h2.keep (heap_setCell_other w _ _ _ e2.symm), h3.keep (heap_setCell_other w _ _ _ e3.symm), h4⟩
theorem MAt.setStr (h : MAt w n p g1 g2 g3) {g : Nat} (hg : g = g1 ∨ g = g2) (i : Nat) (s : ByteArray) : MAt (w.setCell ⟨g, i, none⟩ (.string s)) n p g1 g2 g3 := by
  have e1 := h.ne1
  have e2 := h.ne2
  have e13 := h.ne13
  have e23 := h.ne23
  obtain ⟨⟨c1, c2, c3, dn, st, lf, hp⟩, h1, h2, h3, h4⟩ := h
  exact ⟨⟨c1, c2, c3, dn, st, lf, hp.keep (heap_setCell_other w _ _ _ (by rcases hg with rfl | rfl <;> assumption))⟩, h1.set g i s, h2.set g i s, h3.keep (heap_setCell_other w _ _ _ (by rcases hg with rfl | rfl; exact e13.symm; exact e23.symm)), h4⟩
theorem MAt.setTru (h : MAt w n p g1 g2 g3) (i : Nat) (b : Bool) : MAt (w.setCell ⟨g3, i, none⟩ (.bool b)) n p g1 g2 g3 := by
  have e3 := h.ne3
  have e13 := h.ne13
  have e23 := h.ne23
  obtain ⟨⟨c1, c2, c3, dn, st, lf, hp⟩, h1, h2, h3, h4⟩ := h
  exact ⟨⟨c1, c2, c3, dn, st, lf, hp.keep (heap_setCell_other w _ _ _ e3)⟩, h1.keep (heap_setCell_other w _ _ _ e13), h2.keep (heap_setCell_other w _ _ _ e23), h3.set i b, h4⟩
/-- Its struct's cells. -/
theorem MAt.cells (h : MAt w n p g1 g2 g3) : ∃ (c1 c2 c3 : Nat) (dn st : Bool) (lf : Int), w.cell? ⟨p, 0, none⟩ = some (.slice (some ⟨g1, 0, none⟩) n c1) ∧ w.cell? ⟨p, 1, none⟩ = some (.slice (some ⟨g2, 0, none⟩) n c2) ∧
    w.cell? ⟨p, 2, none⟩ = some (.slice (some ⟨g3, 0, none⟩) n c3) ∧ w.cell? ⟨p, 3, none⟩ = some (.bool dn) ∧ w.cell? ⟨p, 4, none⟩ = some (.bool st) ∧ w.cell? ⟨p, 5, none⟩ = some (.int .i64 lf) ∧ ∀ j, w.frozen? ⟨p, j, none⟩ = false := by
  obtain ⟨⟨c1, c2, c3, dn, st, lf, hp⟩, _⟩ := h
  exact ⟨c1, c2, c3, dn, st, lf, hp.cell 0, hp.cell 1, hp.cell 2, hp.cell 3, hp.cell 4, hp.cell 5, hp.free⟩
/-- What a call of it that tells a number leaves. -/
def MNum (w : World) (n p g1 g2 g3 : Nat) (e : Ending) (w' : World) : Prop := ∃ er : Int, e = .returned (.int .i64 er) ∧ MAt w' n p g1 g2 g3 ∧ Oth (ms p g1 g2 g3) w w'
set_option maxHeartbeats 1000000 in
theorem mthere_any (h : MAt w n p g1 g2 g3) (a : Int) : Calls Try.prog 34 #[.pointer (some ⟨p, 0, none⟩), .int .i64 a] w fun e w' => e = .returned (.bool (decide (0 ≤ a ∧ a < (n : Int)))) ∧ w' = w := by
  obtain ⟨c1, c2, c3, dn, st, lf, z0, _, _, _, _, _, _⟩ := h.cells
  clear h
  go_enter Try.func34, Try.ntmps34
  by_cases h1 : 0 ≤ a
  · go_wp2
    go_ret
    exact ⟨by simp [h1], rfl⟩
  · go_wp2
    go_ret
    exact ⟨by simp; omega, rfl⟩
set_option maxHeartbeats 1000000 in
theorem mstep_any (h : MAt w n p g1 g2 g3) : Calls Try.prog 35 #[.pointer (some ⟨p, 0, none⟩)] w (MNum w n p g1 g2 g3) := by
  obtain ⟨c1, c2, c3, dn, st, lf, _, _, _, z3, z4, z5, zf⟩ := h.cells
  have f3 := zf 3
  have f5 := zf 5
  have Hh := Lib.hid h
  clear h zf
  cases st with
  | false =>
    go_enter Try.func35, Try.ntmps35
    go_wp2
    go_ret
    exact ⟨_, rfl, Hh.out, Oth.refl _ _⟩
  | true =>
    go_enter Try.func35, Try.ntmps35
    go_wp2
    go_ret
    exact ⟨_, rfl, (Hh.out.setLeft _).setDown _, ((Oth.refl (ms p g1 g2 g3) w).set (.inl rfl) _ _).set (.inl rfl) _ _⟩
set_option maxHeartbeats 1000000 in
theorem mstop_any (h : MAt w n p g1 g2 g3) (a : Int) : Calls Try.prog 27 #[.pointer (some ⟨p, 0, none⟩), .int .i64 a] w (MNum w n p g1 g2 g3) := by
  obtain ⟨c1, c2, c3, dn, st, lf, _, _, _, z3, z4, z5, zf⟩ := h.cells
  have f3 := zf 3
  have f4 := zf 4
  have f5 := zf 5
  have Hh := Lib.hid h
  clear h zf
  cases dn with
  | true =>
    go_enter Try.func27, Try.ntmps27
    go_wp2
    go_ret
    exact ⟨_, rfl, Hh.out, Oth.refl _ _⟩
  | false =>
    go_enter Try.func27, Try.ntmps27
    by_cases h1 : a < 0
    · go_wp2
      go_ret
      exact ⟨_, rfl, Hh.out, Oth.refl _ _⟩
    · by_cases h2 : 1000000 < a
      · go_wp2
        go_ret
        exact ⟨_, rfl, Hh.out, Oth.refl _ _⟩
      · go_wp2
        go_ret
        exact ⟨_, rfl, ((Hh.out.setStops _).setLeft _).setDown _, (((Oth.refl (ms p g1 g2 g3) w).set (.inl rfl) _ _).set (.inl rfl) _ _).set (.inl rfl) _ _⟩
/-- What Read of it tells. -/
def MRead (w : World) (e : Ending) (w' : World) : Prop := ∃ (s : ByteArray) (er : Int), e = .returned (.tuple #[.string s, .int .i64 er]) ∧ w' = w
set_option maxHeartbeats 1000000 in
theorem mread_any (h : MAt w n p g1 g2 g3) (a : Int) : Calls Try.prog 26 #[.pointer (some ⟨p, 0, none⟩), .int .i64 a] w (MRead w) := by
  obtain ⟨c1, c2, c3, dn, st, lf, z0, _, _, _, _, _, _⟩ := h.cells
  have ht := mthere_any h a
  by_cases ha : 0 ≤ a ∧ a < (n : Int)
  · rw [show decide (0 ≤ a ∧ a < (n : Int)) = true from by simp [ha]] at ht
    obtain ⟨k, rfl⟩ : ∃ k : Nat, a = (k : Int) := ⟨a.toNat, by omega⟩
    have hk : k < n := by omega
    obtain ⟨s, hs⟩ := h.now.cell hk
    have hm := h.most
    clear h
    obtain ⟨_, ha⟩ := ha
    go_enter Try.func26, Try.ntmps26
    go_wp2_with (go_at_call 34; refine ht.mono ?_; rintro e w' ⟨rfl, rfl⟩)
    go_ret2
    exact ⟨_, _, rfl, rfl⟩
  · rw [show decide (0 ≤ a ∧ a < (n : Int)) = false from by simp only [decide_eq_false_iff_not]; exact ha] at ht
    clear ha h
    go_enter Try.func26, Try.ntmps26
    go_wp2_with (go_at_call 34; refine ht.mono ?_; rintro e w' ⟨rfl, rfl⟩)
    go_ret2
    exact ⟨_, _, rfl, rfl⟩
end
end Go.Proofs.Ytoookmkfaihbpaa
