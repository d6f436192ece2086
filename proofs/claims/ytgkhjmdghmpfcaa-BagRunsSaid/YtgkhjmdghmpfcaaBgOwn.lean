/-
  A message's copy, by the document (Own) and by the program (copyOf): contracts.
-/
import Derived.Test.YtgkhjmdghmpfcaaBgCopy
import Derived.Lib.SlBytesConst
namespace Go.Proofs.Ytgkhjmdghmpfcaa
open Go.RowKit

theorem below_nil {w w' : World} (h : w.grownBy w' none) : Below w.heap.size w w' := (Below.refl _ _).grown h (Nat.le_refl _) fun k hk => by cases hk
/-- What a copy is: the same message, its entries in a row of the call's own. -/
def CopyPost (w : World) (m : Ms) (e : Ending) (w' : World) : Prop := ∃ v, e = .returned (mval m v) ∧ OwnE w' w.heap.size v m.es ∧ Below w.heap.size w w'
/-- append(row of no element, more...) of entries. -/
theorem app_ens {w : World} {v : Value} {base : Nat} (hown : OwnE w base v []) {A : Option Addr} {n : Nat} (c : Nat) {l : List En} (hr : RdE w A n l) (hn : n ≤ 1000) (hbase : base ≤ w.heap.size) :
    ∃ v' w', (Builtin.append_ #[40, 40] 40 #[v, .slice A n c]).run Try.prog w = .ok v' w' ∧ OwnE w' base v' l ∧ w.grownBy w' v.ownBlock := by
  obtain ⟨v', w', h1, h2, h3, _⟩ := run_appC (P := Try.prog) (ty := 40) (t := 40) Try.underlying40 Try.infoEn rfl (by decide) (by decide) (n := 0) (xs := []) hown c hr.rd (ecl_one l) (by omega) hbase
  refine ⟨v', w', h1, ?_, h3⟩
  unfold OwnE
  rw [hr.len]
  simpa using h2
set_option maxRecDepth 20000 in
set_option maxHeartbeats 1000000 in
theorem refOwn_any (m : Ms) (e : Value) (w : World) (h : MsgR w (m, e)) (hs : m.es.length ≤ 1000) :
    Calls Try.prog 19 #[mval m e] w (CopyPost w m) := by
  obtain ⟨A, c, he, hr⟩ := h
  simp only at he hr
  have he1 : e.oneCell' = true := by rw [he]; rfl
  obtain ⟨W1, x1, n1⟩ := box_new w m e
  obtain ⟨W2, a1, n2, -⟩ := alloc_new W1
  have b1 := n1.below
  have b12 : Below W1.heap.size W1 W2 := n2.below
  have b2 : Below w.heap.size w W2 := b1.trans (b12.mono b1.size)
  have z1 := n1.size
  have z2 := n2.size
  obtain ⟨v, W3, hap, hO, hg⟩ := app_ens (w := W2) (base := W2.heap.size) OwnE.nil c (hr.below b2) hs (Nat.le_refl _)
  obtain ⟨B, cv, hvs, -, -⟩ := hO.rd
  have b3 := below_nil hg
  have K3 := (n1.whole.below b12).below b3
  have R3 := n2.whole.below b3
  rw [z1] at R3
  have hv1 : v.oneCell' = true := row_one hO
  have hlt : W2.heap.size ≤ W3.heap.size := b3.size
  have c8 : W2.cell? ⟨w.heap.size, 8, none⟩ = some e := (n1.whole.below b12).cell 8
  rw [he] at c8
  have d8 : W3.cell? ⟨w.heap.size, 8, none⟩ = some e := K3.cell 8
  rw [he] at d8
  have f8 := K3.free 8
  have K4 : Whole (W3.setCell ⟨w.heap.size, 8, none⟩ v) w.heap.size 47 (mcs m v) := K3.set 8 v
  have g4 := grown_set W3 w.heap.size 8 v
  have R4 := R3.grown g4 (by omega)
  have O4 : OwnE (W3.setCell ⟨w.heap.size, 8, none⟩ v) W2.heap.size v m.es := row_keep hO fun k hk => g4.block k (World.ownsRow.lt hO k hk).2 (fun q => by injection q with q; have := (World.ownsRow.lt hO k hk).1; omega)
  have B4 : Below w.heap.size w (W3.setCell ⟨w.heap.size, 8, none⟩ v) := below_grown (b2.trans (b3.mono b2.size)) g4 (by omega) (Nat.le_refl _)
  have ld := load_box K4
  obtain ⟨W5, st, R5, g5⟩ := store_ms R4 (mcs_len _ _) (m := m) (e := v) hv1
  have O5 : OwnE W5 W2.heap.size v m.es := row_keep O4 fun k hk => g5.block k (World.ownsRow.lt O4 k hk).2 (fun q => by injection q with q; have := (World.ownsRow.lt O4 k hk).1; omega)
  have B5 := below_grown B4 g5 (by simp [World.setCell]; omega) (by omega : w.heap.size ≤ w.heap.size + 1)
  have HF := Lib.hid (show OwnE W5 w.heap.size v m.es from row_mono O5 (by omega))
  have HB5 := Lib.hid B5
  have HR5 := Lib.hid R5
  have hpz : (⟨W1.heap.size, 0, none⟩ : Addr) = ⟨w.heap.size + 1, 0, none⟩ := by rw [z1]
  rw [hpz] at a1
  clear n1 n2 b1 b12 b2 hO hg b3 K3 R3 hlt K4 g4 R4 O4 B4 R5 g5 O5 B5 he1 hv1 z1 z2 hr hpz
  subst he
  subst hvs
  go_enter Try.func19, Try.ntmps19
  go_wp2_with (first | (refine wpList_box_run x1 rfl _ rfl rfl ?_) | (refine wpList_alloc_run a1 rfl rfl ?_) | (at_builtin; refine wpList_append_run hap rfl _ _ rfl rfl rfl rfl ?_) | (refine wpList_load_run ld rfl _ rfl rfl ?_) | (refine wpList_store_run st rfl _ _ rfl rfl rfl ?_))
  refine bodyPost_ret (results_cell_row rfl _ _ (w.heap.size + 1) 47 _ (0, 0) _ rfl HR5.out Try.underlying47 rfl (by kernel_rfl)) rfl ?_
  exact ⟨_, rfl, HF.out, HB5.out⟩
def CloneE (w : World) (l : List En) (e : Ending) (w' : World) : Prop := ∃ v, e = .returned v ∧ OwnE w' w.heap.size v l ∧ Below w.heap.size w w'
set_option maxHeartbeats 1000000 in
theorem cloneE_any {A : Option Addr} {n c : Nat} {l : List En} {w : World} (h : RdE w A n l) (hn : n ≤ 1000) :
    Calls Try.prog 32 #[.slice A n c] w (CloneE w l) := by
  have q := fun w => run_isnil (P := Try.prog) w 40 _ A n c Try.underlying40
  cases A with
  | none =>
    have h0 : n = 0 := by
      rcases Nat.eq_zero_or_pos n with h0 | h0
      · exact h0
      · obtain ⟨b, off, e, _⟩ := h.rd.at_ h0
        cases e
    subst h0
    obtain rfl : l = [] := List.eq_nil_of_length_eq_zero h.len
    clear h
    go_enter Try.func32, Try.ntmps32
    go_wp2
    go_ret
    exact ⟨_, rfl, OwnE.nil, Below.refl _ _⟩
  | some a =>
    have b1 : Below w.heap.size w (w.alloc (.cells #[] 66)) := (Below.refl _ _).alloc (Nat.le_refl _) _
    have ho : OwnE (w.alloc (.cells #[] 66)) w.heap.size (.slice (some ⟨w.heap.size, 0, none⟩) 0 0) [] := ⟨rfl, .inr ⟨_, 0, #[], rfl, Nat.le_refl _, Whole.new w #[] 66, Nat.le_refl _, by simp [maxLen], by simp, by simp [ecl]⟩⟩
    obtain ⟨v', W3, hap, hO, hg⟩ := app_ens ho c (h.below b1) hn b1.size
    have b3 : Below w.heap.size w W3 := b1.grown hg (by simp) fun k hk => by
      have : w.heap.size = k := by simpa [Value.ownBlock] using hk
      omega
    have HO := Lib.hid hO
    have HB := Lib.hid b3
    clear h ho hO hg b1 b3
    go_enter Try.func32, Try.ntmps32
    go_wp2_with (at_builtin; refine wpList_append_run hap rfl _ _ rfl rfl rfl rfl ?_)
    go_ret
    exact ⟨_, rfl, HO.out, HB.out⟩
set_option maxRecDepth 20000 in
set_option maxHeartbeats 1000000 in
theorem copyOf_any (m : Ms) (e : Value) (w : World) (h : MsgR w (m, e)) (hs : SmallM m) :
    Calls Try.prog 26 #[mval m e] w (CopyPost w m) := by
  obtain ⟨A, c, he, hr⟩ := h
  simp only at he hr
  obtain ⟨W1, x1, n1⟩ := box_new w m e
  obtain ⟨W2, a1, n2, -⟩ := alloc_new W1
  have b1 := n1.below
  have b12 : Below W1.heap.size W1 W2 := n2.below
  have b2 : Below w.heap.size w W2 := b1.trans (b12.mono b1.size)
  have z1 := n1.size
  have z2 := n2.size
  have K2 := n1.whole.below b12
  have R2 := n2.whole
  rw [z1] at R2
  have c8 : W2.cell? ⟨w.heap.size, 8, none⟩ = some e := K2.cell 8
  rw [he] at c8
  have hpz : (⟨W1.heap.size, 0, none⟩ : Addr) = ⟨w.heap.size + 1, 0, none⟩ := by rw [z1]
  rw [hpz] at a1
  have HCl := cloneE_any (c := c) (hr.below b2) hs.1
  have HSt := fun W => strClone_any m.d W (Nat.le_trans hs.2 (by omega))
  have HK2 := Lib.hid K2
  have HR2 := Lib.hid R2
  have HB2 := Lib.hid b2
  clear n1 n2 b1 b12 b2 z1 hr hpz K2 R2 hs
  subst he
  go_enter Try.func26, Try.ntmps26
  go_upto_region 2 with (first | (refine wpList_box_run x1 rfl _ rfl rfl ?_) | (refine wpList_alloc_run a1 rfl rfl ?_) | (go_at_call 32; refine HCl.mono ?_; rintro e W3 ⟨v, rfl, hO, b3⟩; obtain ⟨B, cv, rfl, -, -⟩ := hO.rd; have d8 := (HK2.out.below b3).cell 8; have f8 := (HK2.out.below b3).free 8; simp only [mcs, List.getElem?_cons_succ, List.getElem?_cons_zero] at d8))
  have K3 := HK2.out.below b3
  have R3 := HR2.out.below b3
  have g4 := grown_set W3 w.heap.size 8 (.slice B m.es.length cv)
  have K4 : Whole (W3.setCell ⟨w.heap.size, 8, none⟩ (.slice B m.es.length cv)) w.heap.size 47 (mcs m (.slice B m.es.length cv)) := K3.set 8 _
  have hlt : W2.heap.size ≤ W3.heap.size := b3.size
  have R4 := R3.grown g4 (by omega)
  have O4 : OwnE (W3.setCell ⟨w.heap.size, 8, none⟩ (.slice B m.es.length cv)) W2.heap.size (.slice B m.es.length cv) m.es := row_keep hO fun k hk => g4.block k (World.ownsRow.lt hO k hk).2 (fun q => by injection q with q; have := (World.ownsRow.lt hO k hk).1; have := HR2.out.lt; omega)
  have B4 : Below w.heap.size w (W3.setCell ⟨w.heap.size, 8, none⟩ (.slice B m.es.length cv)) := below_grown (HB2.out.trans (b3.mono HB2.out.size)) g4 (by have := HR2.out.lt; omega) (Nat.le_refl _)
  have hsz : (W3.setCell ⟨w.heap.size, 8, none⟩ (.slice B m.es.length cv)).heap.size = W3.heap.size := by simp [World.setCell]
  have hw2 := HR2.out.lt
  clear d8 f8 K3 R3 g4 c8 a1 x1 HCl HK2 HR2 hO b3 z2
  generalize W3.setCell ⟨w.heap.size, 8, none⟩ (.slice B m.es.length cv) = W4 at K4 R4 O4 B4 hsz ⊢
  have d11 := K4.cell 11
  simp only [mcs, List.getElem?_cons_succ, List.getElem?_cons_zero] at d11
  have HSt4 := HSt W4
  have HK4 := Lib.hid K4
  have HR4 := Lib.hid R4
  have HO4 := Lib.hid O4
  have HB4 := Lib.hid B4
  clear HSt K4 R4 O4 B4
  go_upto_region 3 with (go_at_call 33; refine HSt4.mono ?_; rintro e W5 ⟨rfl, b5⟩; have e11 := (HK4.out.below b5).cell 11; have f11 := (HK4.out.below b5).free 11; simp only [mcs, List.getElem?_cons_succ, List.getElem?_cons_zero] at e11)
  have K5 := HK4.out.below b5
  have g6 := grown_set W5 w.heap.size 11 (.string m.d)
  have K6 : Whole (W5.setCell ⟨w.heap.size, 11, none⟩ (.string m.d)) w.heap.size 47 (mcs m (.slice B m.es.length cv)) := K5.set 11 _
  have hlt5 : W4.heap.size ≤ W5.heap.size := b5.size
  have R6 := (HR4.out.below b5).grown g6 (by omega)
  have O5 := row_below HO4.out b5
  have O6 : OwnE (W5.setCell ⟨w.heap.size, 11, none⟩ (.string m.d)) W2.heap.size (.slice B m.es.length cv) m.es := row_keep O5 fun k hk => g6.block k (World.ownsRow.lt O5 k hk).2 (fun q => by injection q with q; have := (World.ownsRow.lt O5 k hk).1; omega)
  have B6 : Below w.heap.size w (W5.setCell ⟨w.heap.size, 11, none⟩ (.string m.d)) := below_grown (HB4.out.trans (b5.mono HB4.out.size)) g6 (by omega) (Nat.le_refl _)
  clear e11 f11 d11 K5 g6 hlt5 O5 HSt4 HK4 HR4 HO4 HB4 b5 hsz
  generalize W5.setCell ⟨w.heap.size, 11, none⟩ (.string m.d) = W6 at K6 R6 O6 B6 ⊢
  have ld := load_box K6
  obtain ⟨W7, st, R7, g7⟩ := store_ms R6 (mcs_len _ _) (m := m) (e := .slice B m.es.length cv) rfl
  have O7 : OwnE W7 W2.heap.size (.slice B m.es.length cv) m.es := row_keep O6 fun k hk => g7.block k (World.ownsRow.lt O6 k hk).2 (fun q => by injection q with q; have := (World.ownsRow.lt O6 k hk).1; omega)
  have B7 := below_grown B6 g7 B6.size (by omega : w.heap.size ≤ w.heap.size + 1)
  have HF := Lib.hid (show OwnE W7 w.heap.size (.slice B m.es.length cv) m.es from row_mono O7 (by omega))
  have HB7 := Lib.hid B7
  have HR7 := Lib.hid R7
  clear K6 R6 O6 B6 R7 g7 O7 B7
  go_wp2_with (first | (refine wpList_load_run ld rfl _ rfl rfl ?_) | (refine wpList_store_run st rfl _ _ rfl rfl rfl ?_))
  refine bodyPost_ret (results_cell_row rfl _ _ (w.heap.size + 1) 47 _ (0, 0) _ rfl HR7.out Try.underlying47 rfl (by kernel_rfl)) rfl ?_
  exact ⟨_, rfl, HF.out, HB7.out⟩
end Go.Proofs.Ytgkhjmdghmpfcaa
