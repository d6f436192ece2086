/-
  Taking a block, by the document: contract of Take.
-/
import Derived.Test.YthiijnanfiddpaaDoorBudTk
import Derived.Test.YthiijnanfiddpaaDoorBudLawA
import Derived.Deep.LoopGhost
namespace Go.Proofs.YthiijnanfiddpaaDoor
open Go.RowKit

/-- What taking tells: a block, what is left, an error's number. -/
def TakeRes (r : Int) (l : List Blk) (t : Int) (b : Blk) (m : List Blk) (er : Int) : Prop :=
  (mayTk r l t = false ∧ b = (0, 0) ∧ m = [] ∧ er = 1) ∨ (mayTk r l t = true ∧ roomB l t = false ∧ b = (0, 0) ∧ m = [] ∧ er = 40) ∨ (mayTk r l t = true ∧ roomB l t = true ∧ er = 0 ∧ Took l t b m)
theorem TakeRes.eq {r t er er' : Int} {l m m' : List Blk} {b b' : Blk} (h : TakeRes r l t b m er) (k : TakeRes r l t b' m' er') : b = b' ∧ m = m' ∧ er = er' := by
  rcases h with ⟨h1, h2, h3, h4⟩ | ⟨h1, h2, h3, h4, h5⟩ | ⟨h1, h2, h3, h4⟩ <;> rcases k with ⟨k1, k2, k3, k4⟩ | ⟨k1, k2, k3, k4, k5⟩ | ⟨k1, k2, k3, k4⟩ <;> simp_all
  exact h4.eq k4
def TakePost (w : World) (r : Int) (l : List Blk) (t : Int) (e : Ending) (w' : World) : Prop :=
  ∃ b m er v, e = .returned (.tuple #[bval b, v, .int .i64 er]) ∧ TakeRes r l t b m er ∧ OwnB 32 w' w.heap.size v m ∧ Below w.heap.size w w'

theorem results_box3 {fn : Func} {p q u : Tmp} {b : Blk} (h : fn.results = #[.cell p 32, .tmp q, .tmp u]) (tmps : Array Value) (w : World) (k : Nat) (hp : tmps.getD p undef = .pointer (some ⟨k, 0, none⟩))
    (c0 : w.cell? ⟨k, 0, none⟩ = some (.int .i64 b.1)) (c1 : w.cell? ⟨k, 1, none⟩ = some (.int .i64 b.2)) : (results fn tmps).run Tryd.prog w = .ok (.tuple #[bval b, tmps.getD q undef, tmps.getD u undef]) w := by
  have u' := Tryd.underlying32
  have z := Tryd.sizeOf32
  have a := Tryd.isAgg32
  have hp' : tmps[p]?.getD undef = .pointer (some ⟨k, 0, none⟩) := by simpa using hp
  simp only [results, h]
  simp [hp', asAddr, loadVar]
  go_simp
  rfl

/-- The halving so far. -/
def TkInv (l : List Blk) (B : Blk) (o : Int) (m : List Blk) : Prop := m.Pairwise (fun x y => x.1 < y.1) ∧ ∀ c, c ∈ m ↔ (c ∈ l ∧ c ≠ B) ∨ IsHalf B o c
theorem TkInv.start {r : Int} {l : List Blk} {B : Blk} (h : Right r l) : TkInv l B B.2 (woL l B) := by
  refine ⟨h.rise.sublist List.filter_sublist, fun c => ?_⟩
  rw [woL_mem]
  constructor
  · exact fun h => .inl h
  · rintro (h | h)
    · exact h
    · have := h.1; have := h.2.1; omega
theorem TkInv.step {r o : Int} {l m : List Blk} {B : Blk} (h : Right r l) (hB : B ∈ l) (ho : 0 < o) (hoB : o ≤ B.2) (k : TkInv l B o m) : TkInv l B (o - 1) (ins (B.1 + sz (o - 1), o - 1) m) := by
  obtain ⟨k1, k2⟩ := k
  have hM := h.may hB
  have hr := h.1.2
  have hc : IsHalf B (o - 1) (B.1 + sz (o - 1), o - 1) := ⟨Int.le_refl _, by simp only; omega, rfl⟩
  have hh := half_may hr (by omega) hM hc
  refine ⟨ins_rise k1 fun c hcm he => ?_, fun c => ?_⟩
  · simp only at he
    rcases (k2 c).1 hcm with e | e
    · refine e.2 (h.apart e.1 hB ?_)
      have h1 := hh.2.1
      have h2 := hh.2.2.1
      have h3 := sz_pos (o - 1)
      have h4 := sz_pos c.2
      simp only at h1 h2
      exact ⟨by omega, by omega⟩
    · obtain ⟨e1, e2, e3⟩ := e
      have h1 := sz_le (o := o - 1 + 1) (p := c.2) (by omega) (by omega) (by have := hM.2.1; omega)
      rw [sz_succ (by omega)] at h1
      have := sz_pos (o - 1)
      omega
  · rw [ins_mem, k2 c]
    constructor
    · rintro (e | e | e)
      · rw [e]; exact .inr hc
      · exact .inl e
      · exact .inr ⟨by have := e.1; omega, e.2.1, e.2.2⟩
    · rintro (e | e)
      · exact .inr (.inl e)
      · by_cases q : c.2 = o - 1
        · refine .inl (Prod.ext ?_ q)
          rw [e.2.2, q]
        · exact .inr (.inr ⟨by have := e.1; omega, e.2.1, e.2.2⟩)

/-- The zero block is stored as a result, and a refusal is told. -/
theorem refused_post {w w2 : World} {r t : Int} {l : List Blk} {b : Blk} {er : Int} (hres : TakeRes r l t (0, 0) [] er) (K : Whole w2 w.heap.size 32 [.int .i64 0, .int .i64 0]) (B : Below w.heap.size w w2) (_hb : b = (0, 0)) :
    Whole ((w2.setCell ⟨w.heap.size, 0, none⟩ (.int .i64 0)).setCell ⟨w.heap.size, 1, none⟩ (.int .i64 0)) w.heap.size 32 [.int .i64 0, .int .i64 0] ∧
    TakePost w r l t (.returned (.tuple #[bval (0, 0), .slice none 0 0, .int .i64 er])) ((w2.setCell ⟨w.heap.size, 0, none⟩ (.int .i64 0)).setCell ⟨w.heap.size, 1, none⟩ (.int .i64 0)) :=
  ⟨(K.set 0 (.int .i64 0)).set 1 (.int .i64 0), (0, 0), [], er, _, rfl, hres, OwnB.nil, below_grown B (grown_trans (grown_set w2 w.heap.size 0 _) (grown_set _ w.heap.size 1 _)) B.size (Nat.le_refl _)⟩

set_option maxHeartbeats 1000000 in
theorem refTake_refused (r : Int) (A : Option Addr) (n c : Nat) (l : List Blk) (t : Int) (w : World) (h : RdS w A n l) (hn : n ≤ 1000) (hm : mayTk r l t = false) :
    Calls Tryd.prog 22 #[.int .i64 r, .slice A n c, .int .i64 t] w (TakePost w r l t) := by
  have hB := (Below.refl w.heap.size w).alloc (Nat.le_refl _) (.cells #[.int .i64 0, .int .i64 0] 32)
  have S := refRight_any r A n c l _ (h.below hB) hn
  have HK := Lib.hid (Whole.new w #[.int .i64 0, .int .i64 0] 32)
  have HB := Lib.hid hB
  have hres := Lib.hid (show TakeRes r l t (0, 0) [] 1 from .inl ⟨hm, rfl, rfl, rfl⟩)
  clear h hB
  unfold mayTk at hm
  by_cases hR : Right r l
  · rw [decide_eq_true hR] at S
    rw [decide_eq_true hR, Bool.true_and] at hm
    by_cases h0 : 0 ≤ t
    · have h1 : ¬ t ≤ r := fun q => by rw [decide_eq_true h0, decide_eq_true q] at hm; cases hm
      have k0 : decide (t < 0) = false := by simp; omega
      have k1 : decide (r < t) = true := by simp; omega
      clear hm
      go_enter Tryd.func22, Tryd.ntmps22
      go_wp2_with (go_at_call 13; refine S.mono ?_; rintro e w2 ⟨rfl, g2⟩; have K := Lib.hid (HK.out.below g2.below); have c0 := K.out.cell 0; have c1 := K.out.cell 1; have f0 := K.out.free)
      obtain ⟨K2, P⟩ := refused_post (b := (0, 0)) hres.out K.out (HB.out.trans (g2.below.mono HB.out.size)) rfl
      exact bodyPost_ret (results_box3 (b := (0, 0)) (p := 6) (q := 7) (u := 8) rfl _ _ w.heap.size rfl (K2.cell 0) (K2.cell 1)) rfl P
    · have k0 : decide (t < 0) = true := by simp; omega
      clear hm
      go_enter Tryd.func22, Tryd.ntmps22
      go_wp2_with (go_at_call 13; refine S.mono ?_; rintro e w2 ⟨rfl, g2⟩; have K := Lib.hid (HK.out.below g2.below); have c0 := K.out.cell 0; have c1 := K.out.cell 1; have f0 := K.out.free)
      obtain ⟨K2, P⟩ := refused_post (b := (0, 0)) hres.out K.out (HB.out.trans (g2.below.mono HB.out.size)) rfl
      exact bodyPost_ret (results_box3 (b := (0, 0)) (p := 6) (q := 7) (u := 8) rfl _ _ w.heap.size rfl (K2.cell 0) (K2.cell 1)) rfl P
  · rw [decide_eq_false hR] at S
    clear hm
    go_enter Tryd.func22, Tryd.ntmps22
    go_wp2_with (go_at_call 13; refine S.mono ?_; rintro e w2 ⟨rfl, g2⟩; have K := Lib.hid (HK.out.below g2.below); have c0 := K.out.cell 0; have c1 := K.out.cell 1; have f0 := K.out.free)
    obtain ⟨K2, P⟩ := refused_post (b := (0, 0)) hres.out K.out (HB.out.trans (g2.below.mono HB.out.size)) rfl
    exact bodyPost_ret (results_box3 (b := (0, 0)) (p := 6) (q := 7) (u := 8) rfl _ _ w.heap.size rfl (K2.cell 0) (K2.cell 1)) rfl P

/-- The halving in memory, so far: n rounds are left at most. -/
def TkRel (w : World) (l : List Blk) (B : Blk) (t : Int) (kb : Nat) (n : Nat) (v : Value) (wr : World) : Prop :=
  ∃ (o : Int) (m : List Blk), t ≤ o ∧ o ≤ B.2 ∧ (o - t).toNat ≤ n ∧ Whole wr kb 32 [.int .i64 B.1, .int .i64 o] ∧ Whole wr w.heap.size 32 [.int .i64 0, .int .i64 0] ∧
    OwnB 32 wr (kb + 1) v m ∧ TkInv l B o m ∧ (m.length : Int) + o ≤ 300 ∧ Below w.heap.size w wr
set_option maxRecDepth 100000 in
set_option maxHeartbeats 4000000 in
theorem refTake_asked (r : Int) (A : Option Addr) (n c : Nat) (l : List Blk) (t : Int) (w : World) (h : RdS w A n l) (hn : n ≤ 1000) (hm : mayTk r l t = true) :
    Calls Tryd.prog 22 #[.int .i64 r, .slice A n c, .int .i64 t] w (TakePost w r l t) := by
  have hB0 := (Below.refl w.heap.size w).alloc (Nat.le_refl _) (.cells #[.int .i64 0, .int .i64 0] 32)
  have hlen := h.len
  have hm2 := hm
  unfold mayTk at hm2
  rw [Bool.and_eq_true, Bool.and_eq_true, decide_eq_true_iff, decide_eq_true_iff, decide_eq_true_iff] at hm2
  obtain ⟨hR, h0, h1⟩ := hm2
  have S := refRight_any r A n c l _ (h.below hB0) hn
  rw [decide_eq_true hR] at S
  have SB := fun W (g : Grew (w.alloc (.cells #[.int .i64 0, .int .i64 0] 32)) W) => refBest_any A n c l t W ((h.below hB0).below g.below) hn
  have HK := Lib.hid (Whole.new w #[.int .i64 0, .int .i64 0] 32)
  have HB := Lib.hid hB0
  have HR := Lib.hid h
  have HRt := Lib.hid hR
  have HM := Lib.hid hm
  have k0 : decide (t < 0) = false := by simp; omega
  have k1 : decide (r < t) = false := by simp; omega
  have hz : (w.alloc (.cells #[.int .i64 0, .int .i64 0] 32)).heap.size = w.heap.size + 1 := by simp
  clear h hB0 hm hR
  go_enter Tryd.func22, Tryd.ntmps22
  go_upto_region 4 with (first | (go_at_call 13; refine S.mono ?_; rintro e w2 ⟨rfl, g2⟩) | (go_at_call 17; refine (SB w2 g2).mono ?_; rintro e w3 ⟨a, rfl, hb, g3⟩))
  have g23 := g2.trans g3
  have K := Lib.hid (HK.out.below g23.below)
  have c0 := K.out.cell 0
  have c1 := K.out.cell 1
  have f0 := K.out.free
  have hb3 := HB.out.trans (g23.below.mono HB.out.size)
  have hsz3 := g23.below.size
  rw [hz] at hsz3
  clear S SB
  rcases hb with ⟨rfl, hno⟩ | ⟨p, rfl, hp1, hp2, hp3⟩
  · have hres : TakeRes r l t (0, 0) [] 40 := .inr (.inl ⟨HM.out, by
      unfold roomB
      rw [List.any_eq_false]
      intro b hb
      obtain ⟨j, hj, rfl⟩ := List.mem_iff_getElem.1 hb
      have := hno j hj
      have e1 : nth l j = l[j] := by have := nth_get hj; rw [List.getElem?_eq_getElem hj] at this; exact (Option.some.inj this).symm
      rw [e1] at this
      simp; omega, rfl, rfl, rfl⟩)
    have Hres := Lib.hid hres
    clear hres hno
    go_wp2
    obtain ⟨K2, P⟩ := refused_post (b := (0, 0)) Hres.out K.out hb3 rfl
    exact bodyPost_ret (results_box3 (b := (0, 0)) (p := 6) (q := 7) (u := 8) rfl _ _ w.heap.size rfl (K2.cell 0) (K2.cell 1)) rfl P
  · obtain ⟨b', off, ⟨x0, x1⟩, rfl, hbl, hx, hc0, hc1⟩ := HR.out.cell (show p < n by omega)
    have a0 := (hb3.cell (p := ⟨b', off + p * 2, none⟩) hbl).trans hc0
    have a1 := (hb3.cell (p := ⟨b', off + p * 2 + 1, none⟩) hbl).trans hc1
    have hpi : (p : Int) < (n : Int) := by omega
    have hxn : nth l p = (x0, x1) := by have := nth_get (l := l) (j := p) (by omega); rw [hx] at this; exact (Option.some.inj this).symm
    have HX := Lib.hid hxn
    have HP3 := Lib.hid hp3
    have hbox := Lib.hid (Whole.new w3 #[.int .i64 x0, .int .i64 x1] 32)
    have SW := refWithout_any (some ⟨b', off, none⟩) n c l (x0, x1) _ (HR.out.below (hb3.alloc hb3.size (.cells #[.int .i64 x0, .int .i64 x1] 32))) hn
    rw [hxn] at hp2
    unfold bval enc2 at SW
    simp only at hp2 SW a0 a1
    clear hx hc0 hc1 hxn hp3
    go_wp2_with (go_at_call 42; refine SW.mono ?_; rintro e w4 ⟨v, rfl, ho, b4⟩)
    have hMB := HRt.out.may (show (x0, x1) ∈ l by rw [← HX.out]; exact nth_mem hp1)
    obtain ⟨q0, q1, q2, q3, q4⟩ := hMB
    have hr8 := HRt.out.1.2
    have hmemB : (x0, x1) ∈ l := by rw [← HX.out]; exact nth_mem hp1
    have hsp := sz_pos x1
    have hsr := sz_le256 (o := r) (by omega) hr8
    simp only at q0 q1 q2 q3 q4
    have hx0 : 0 ≤ x0 ∧ x0 ≤ 256 := ⟨q2, by omega⟩
    have hx1 : x1 ≤ 8 := by omega
    have hlq : ∀ c ∈ l, t ≤ c.2 → Lq (x0, x1) c := fun cc hcc htc => by
      obtain ⟨j, hj, rfl⟩ := List.mem_iff_getElem.1 hcc
      have e1 : nth l j = l[j] := by have := nth_get hj; rw [List.getElem?_eq_getElem hj] at this; exact (Option.some.inj this).symm
      rw [← e1] at htc ⊢
      have h3 := HP3.out j hj htc
      rw [HX.out] at h3
      unfold Lq
      simp only at h3 ⊢
      rcases h3 with h3 | ⟨h3, h4⟩
      · exact .inl h3
      · refine .inr ⟨h3, ?_⟩
        rcases Nat.lt_or_ge p j with h5 | h5
        · have := (right_at HRt.out h5 hj).1
          rw [HX.out] at this
          simp only at this
          omega
        · have : p = j := by omega
          subst this
          rw [HX.out]
          exact Int.le_refl _
    have hroom : roomB l t = true := List.any_eq_true.2 ⟨_, hmemB, decide_eq_true hp2⟩
    have hz3 : (w3.alloc (.cells #[.int .i64 x0, .int .i64 x1] 32)).heap.size = w3.heap.size + 1 := by simp
    rw [hz3] at ho
    have hWL : ((woL l (x0, x1)).length : Int) + x1 ≤ 300 := by have := woL_len l (x0, x1); have := HRt.out.len256; omega
    have hinv := TkInv.start (B := (x0, x1)) HRt.out
    have hbx4 := hbox.out.below b4
    have hK4 := (K.out.alloc (.cells #[.int .i64 x0, .int .i64 x1] 32)).below b4
    have hB4 := (hb3.alloc hb3.size (.cells #[.int .i64 x0, .int .i64 x1] 32)).trans (b4.mono (by rw [hz3]; omega))
    have HL := Lib.hid hlq
    have HME := Lib.hid hmemB
    have HRM := Lib.hid hroom
    clear hlq hmemB hroom SW a0 a1 c0 c1 f0 q3 q4 hsp hsr
    have hkw : w.heap.size < w3.heap.size := by omega
    obtain ⟨kb, hkb⟩ : ∃ kb, kb = w3.heap.size := ⟨_, rfl⟩
    rw [← hkb] at ho hbx4 hkw ⊢
    go_loopg [11] (x1 - t).toNat (fun gg v wr => TkRel w l (x0, x1) t kb gg v wr)
    case atStart => exact ⟨x1, _, hp2, Int.le_refl _, Nat.le_refl _, hbx4, hK4, ho, hinv, hWL, hB4⟩
    case round =>
      clear hbx4 hK4 ho hinv hWL hB4 b4 hbox hkb
      obtain ⟨o, m, ho1, ho2, hg, Wk, WR, own, inv, hml, bw⟩ := hrel
      obtain ⟨A2, c2, rfl, r2⟩ := own.rd
      simp only at ho2
      have j0 := Wk.cell 0
      have j1 := Wk.cell 1
      have jf := Wk.free
      by_cases hlt : t < o
      · have hkk : w.heap.size ≤ kb := by omega
        have own5 := own.keep (w' := wr.setCell ⟨kb, 1, none⟩ (.int .i64 (o - 1))) (fun k hk => heap_setCell_other wr ⟨kb, 1, none⟩ k _ (by have := (own.lt k hk).1; intro e; simp only at e; omega))
        have Wk5 := Wk.set 1 (.int .i64 (o - 1))
        have WR5 := WR.keep (w' := wr.setCell ⟨kb, 1, none⟩ (.int .i64 (o - 1))) (heap_setCell_other wr ⟨kb, 1, none⟩ w.heap.size _ (by simp only; omega))
        have bw5 := below_grown bw (grown_set wr kb 1 (.int .i64 (o - 1))) bw.size hkk
        have z5 : (wr.setCell ⟨kb, 1, none⟩ (.int .i64 (o - 1))).heap.size = wr.heap.size := by simp [World.setCell]
        have hkl := Wk.lt
        go_upto_region 10 with (fail)
        generalize wr.setCell ⟨kb, 1, none⟩ (.int .i64 (o - 1)) = w5 at own5 Wk5 WR5 bw5 z5 ⊢
        obtain ⟨A3, c3, hv3, r5⟩ := own5.rd
        injection hv3 with e1 e2 e3
        subst e1
        subst e3
        have d0 := Wk5.cell 0
        have d1 := Wk5.cell 1
        have SZ := fun W => refSize_any (o - 1) W (by omega) (by omega)
        have hs1 := sz_le256 (o := o - 1) (by omega) (by omega)
        have hs0 := sz_pos (o - 1)
        have hst := Lib.hid (TkInv.step HRt.out HME.out (show 0 < o by omega) (by simp only; omega) inv)
        simp only at hst
        obtain ⟨s, hs⟩ : ∃ s, s = sz (o - 1) := ⟨_, rfl⟩
        rw [← hs] at SZ hs1 hs0 hst
        have SI := fun (W : World) (b : Below w5.heap.size w5 W) => refWith_any A2 m.length c2 m (x0 + s, o - 1) W (r5.below b) (by omega)
        unfold bval enc2 at SI
        simp only at SI
        have e1 : IntKind.i64.wrap (x0 + s) = x0 + s := by rw [IntKind.wrap_i64]; omega
        have HW5 := Lib.hid Wk5
        have HR5 := Lib.hid WR5
        have HO5 := Lib.hid own5
        clear own5 Wk5 WR5 Wk WR own inv j0 j1 jf r2 r5 hs
        go_wp2_with fail
        go_region_with (first | (go_at_call 16; refine (SZ _).mono ?_; rintro e w6 ⟨rfl, rfl⟩) | (go_at_call 43; refine (SI _ (Below.refl _ _).drew).mono ?_; rintro e w6 ⟨v6, rfl, o6, b6⟩))
        all_goals
          have b56 := ((Below.refl w5.heap.size w5).drew).trans b6
          have HRest := Lib.hid (show TkRel w l (x0, x1) t kb (o - 1 - t).toNat v6 w6 from ⟨o - 1, _, by omega, by simp only; omega, Nat.le_refl _, HW5.out.below b56, HR5.out.below b56, o6.mono (show kb + 1 ≤ w5.drew.heap.size from by rw [show w5.drew.heap.size = w5.heap.size from rfl, z5]; omega), hst.out, by rw [ins_len]; omega, bw5.trans (b56.mono bw5.size)⟩)
          clear o6 b6 b56
          go_wp2
          go_roundg (o - 1 - t).toNat
          case measure => omega
          case rel => exact HRest.out
      · obtain rfl : o = t := by omega
        have h0' := WR.cell 0
        have h1' := WR.cell 1
        have hf' := WR.free
        have HWR := Lib.hid WR
        have HO := Lib.hid own
        have HI := Lib.hid inv
        clear WR own inv r2
        go_wp2
        have K2 := (HWR.out.set 0 (.int .i64 x0)).set 1 (.int .i64 o)
        have G2 := grown_trans (grown_set wr w.heap.size 0 (.int .i64 x0)) (grown_set _ w.heap.size 1 (.int .i64 o))
        refine bodyPost_ret (results_box3 (b := (x0, o)) (p := 6) (q := 7) (u := 8) rfl _ _ w.heap.size rfl (K2.cell 0) (K2.cell 1)) rfl ?_
        exact ⟨(x0, o), m, 0, _, rfl, .inr (.inr ⟨HM.out, HRM.out, rfl, (x0, x1), HME.out, hp2, HL.out, rfl, HI.out⟩), (HO.out.mono (by omega)).grown G2 (fun k hk => by have := (HO.out.lt k hk).1; intro e; injection e with e; omega), below_grown bw G2 bw.size (Nat.le_refl _)⟩
end Go.Proofs.YthiijnanfiddpaaDoor
