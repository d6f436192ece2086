/-
  The program's own Best: the first vote that is as new as the newest one: contracts.
-/
import Derived.Test.YtbfamijlaoopaaaVwFnE
import Derived.Laws.EntriesVeiled
namespace Go.Proofs.Ytbfamijlaoopaaa
open Go.RowKit
set_option maxHeartbeats 1000000 in
/-- The literal that asks whether a vote is as new as the newest one. -/
theorem isbest0 (v x : Vt) {p p4 p5 : Nat} {w : World} (hp : p < w.heap.size) (cp : w.cell? ⟨p, 0, none⟩ = some agv) (hp4 : p4 < w.heap.size) (c4 : w.cell? ⟨p4, 0, none⟩ = some (nwv p)) (h5 : Whole w p5 51 (vtc x)) :
    Calls Try.prog 39 #[vtv v, .pointer (some ⟨p4, 0, none⟩), .pointer (some ⟨p5, 0, none⟩)] w fun e w' => e = .returned (.bool (decide (cmpV v x = 0))) ∧ Below w.heap.size w w' := by
  obtain ⟨W1, bx, n1⟩ := boxC (P := Try.prog) (t := 51) w (vtc v)
  have ld1 := load_vt (rangeC n1.whole)
  have ld2 := load_vt (rangeC (h5.below n1.below))
  have d4 := (n1.below.cell (p := ⟨p4, 0, none⟩) hp4).trans c4
  have HN := newer0 v x (w := W1) (Nat.lt_of_lt_of_le hp n1.below.size) ((n1.below.cell (p := ⟨p, 0, none⟩) hp).trans cp)
  have HB := Lib.hid n1.below
  change (Instr.box 51 (vtv v)).run _ _ = _ at bx
  clear n1 h5 hp cp hp4 c4
  unfold nwv at d4
  generalize cmpV v x = r at HN ⊢
  generalize vtv v = vv at bx ld1 HN ⊢
  generalize vtv x = xv at ld2 HN
  go_enter Try.func39, Try.ntmps39
  go_wp2_with (first | (refine wpList_box_run bx rfl _ rfl rfl ?_) | (refine wpList_load_run ld1 rfl _ rfl rfl ?_) | (refine wpList_load_run ld2 rfl _ rfl rfl ?_) | (go_at_call 35; refine HN.mono ?_; rintro e W2 ⟨rfl, b2⟩; have HB2 := Lib.hid b2; clear b2))
  go_ret
  exact ⟨rfl, HB.out.trans (HB2.out.mono HB.out.size)⟩
def IxRel (W : World) (l : List Vt) (x : Vt) (i : Value) (wr : World) : Prop := ∃ k : Nat, k ≤ l.length ∧ i = .int .i64 (k : Int) ∧ Hid ((∀ j : Nat, j < k → cmpV (l.getD j zvt) x ≠ 0) ∧ Below W.heap.size W wr)
set_option maxRecDepth 20000 in
set_option maxHeartbeats 2000000 in
theorem indexf0 {A : Option Addr} {m c : Nat} {l : List Vt} {w : World} (h : RdT w A m l) (hm : m ≤ 1000000) {x : Vt} {p p4 p5 t : Nat} (hp : p < w.heap.size) (cp : w.cell? ⟨p, 0, none⟩ = some agv) (hp4 : p4 < w.heap.size) (c4 : w.cell? ⟨p4, 0, none⟩ = some (nwv p)) (h5 : Whole w p5 51 (vtc x))
    (ht : t < m) (hx : cmpV (l.getD t zvt) x = 0) (hb : ∀ j : Nat, j < t → cmpV (l.getD j zvt) x ≠ 0) :
    Calls Try.prog 38 #[.slice A m c, .func (.func 39) #[] #[.pointer (some ⟨p4, 0, none⟩), .pointer (some ⟨p5, 0, none⟩)]] w fun e w' => e = .returned (.int .i64 (t : Int)) ∧ Below w.heap.size w w' := by
  obtain ⟨b, off, rfl, -, -⟩ := h.range (by omega)
  have HL := Lib.hid h.len
  have HR := Lib.hid h
  have NN := Lib.hid fun (W : World) (hW : Below w.heap.size w W) (v : Vt) => isbest0 v x (w := W) (Nat.lt_of_lt_of_le hp hW.size) ((hW.cell (p := ⟨p, 0, none⟩) hp).trans cp) (Nat.lt_of_lt_of_le hp4 hW.size) ((hW.cell (p := ⟨p4, 0, none⟩) hp4).trans c4) (h5.below hW)
  have HX := Lib.hid hx
  have HB := Lib.hid hb
  clear h hp cp hp4 c4 h5 hx hb
  go_enter Try.func38, Try.ntmps38
  go_wp2_with fail
  go_loopw [8] (IxRel w l x) (fun i _ => m - (Go.RowKit.intOf i).toNat)
  case atStart => exact ⟨0, Nat.zero_le _, rfl, Lib.hid ⟨fun j hj => absurd hj (Nat.not_lt_zero _), Below.refl _ _⟩⟩
  case round =>
    obtain ⟨k, hk, rfl, HK⟩ := hrel
    rw [HL.out] at hk
    by_cases hlt : k < m
    · have hki : (k : Int) < (m : Int) := by omega
      have ld := load_vt ((HR.out.below HK.out.2).at1 hlt)
      have HC := NN.out wr HK.out.2 (l.getD k zvt)
      generalize vtv (l.getD k zvt) = v at ld HC
      by_cases he : cmpV (l.getD k zvt) x = 0
      · have hkt : k = t := by
          rcases Nat.lt_trichotomy k t with e | e | e
          · exact absurd he (HB.out k e)
          · exact e
          · exact absurd HX.out (HK.out.1 t e)
        subst hkt
        rw [decide_eq_true he] at HC
        clear he NN
        go_wp2_with (first | (refine wpList_load_run ld rfl _ rfl rfl ?_) | (go_at_call 39; refine HC.mono ?_; rintro e W2 ⟨rfl, b2⟩; have HB2 := Lib.hid b2; clear b2))
        go_ret
        exact ⟨rfl, HK.out.2.trans (HB2.out.mono HK.out.2.size)⟩
      · rw [decide_eq_false he] at HC
        have HE := Lib.hid he
        clear he
        go_wp2_with (first | (refine wpList_load_run ld rfl _ rfl rfl ?_) | (go_at_call 39; refine HC.mono ?_; rintro e W2 ⟨rfl, b2⟩; have HB2 := Lib.hid b2; clear b2))
        go_roundw
        case rel => exact ⟨k + 1, by have := HL.out; omega, by go_num, Lib.hid ⟨fun j hj => by
          rcases Nat.lt_or_ge j k with e | e
          · exact HK.out.1 j e
          · obtain rfl : j = k := by omega
            exact HE.out, HK.out.2.trans (HB2.out.mono HK.out.2.size)⟩⟩
        case measure => simp [Go.RowKit.intOf]; omega
    · exact absurd HX.out (HK.out.1 t (by omega))
theorem best_first {l : List Vt} {m : Nat} (h0 : 0 < m) : cmpV (l.getD (bestP l m).toNat zvt) (l.getD (bestP l m).toNat zvt) = 0 ∧ ∀ j : Nat, j < (bestP l m).toNat → cmpV (l.getD j zvt) (l.getD (bestP l m).toNat zvt) ≠ 0 := by
  obtain ⟨h1, h2, -, h4⟩ := bestP_spec l m h0
  refine ⟨(cmpV_zero _ _).2 ⟨rfl, rfl⟩, fun j hj he => ?_⟩
  have h5 := h4 j (by omega)
  rw [cmpV_zero] at he
  unfold gtv at h5
  rw [he.1, he.2] at h5
  simp at h5
set_option maxRecDepth 20000 in
set_option maxHeartbeats 2000000 in
theorem vbest0 {A : Option Addr} {m c : Nat} {l : List Vt} {w : World} (h : RdT w A m l) (hm : m ≤ 1000000) : Calls Try.prog 24 #[.slice A m c] w fun e w' => e = .returned (.int .i64 (bestP l l.length)) ∧ Below w.heap.size w w' := by
  rw [h.len]
  by_cases h0 : m = 0
  · subst h0
    clear h
    go_enter Try.func24, Try.ntmps24
    go_wp2
    go_ret
    exact ⟨rfl, Below.refl _ _⟩
  · have hm0 : ¬ ((m : Int) = 0) := by omega
    obtain ⟨b1, b2, -, -⟩ := bestP_spec l m (by omega)
    obtain ⟨t, ht⟩ : ∃ t : Nat, bestP l m = (t : Int) := ⟨(bestP l m).toNat, by omega⟩
    have hF := best_first (l := l) (m := m) (by omega)
    rw [ht] at b2
    have K1 := (Whole.new w #[agv] 46).alloc (.cells #[nwv w.heap.size] 53)
    have K2 := Whole.new (w.alloc (.cells #[agv] 46)) #[nwv w.heap.size] 53
    have hs : (w.alloc (.cells #[agv] 46)).heap.size = w.heap.size + 1 := by simp
    have B2 := ((Below.refl w.heap.size w).alloc (Nat.le_refl _) (.cells #[agv] 46)).alloc (by simp) (.cells #[nwv w.heap.size] 53)
    rw [hs] at K2
    have HK := Lib.hid (And.intro K1 (And.intro K2 B2))
    have HT := Lib.hid ht
    have HF := Lib.hid hF
    have HR := Lib.hid h
    have hml : ¬ m = 0 := h0
    clear K1 K2 B2 hs ht hF h h0
    simp only [nwv, agv] at HK
    have HO := order0 w
    unfold agv at HO
    go_enter Try.func24, Try.ntmps24
    go_upto_region 5 with (go_at_call 33; refine HO.mono ?_; rintro e w1 ⟨rfl, rfl⟩)
    generalize (World.alloc (World.alloc _ _) _) = W2 at HK ⊢
    clear HO
    obtain ⟨k1, k2, B2⟩ := HK.out
    have cp := k1.cell 0
    have c4 := k2.cell 0
    simp only [List.getElem?_cons_zero] at cp c4
    have HM := maxf0 (c := c) (HR.out.below B2) (by omega) hm (p := w1.heap.size) (by have := k1.lt; omega) cp
    generalize hbst : l.getD (bestP l m).toNat zvt = x at HF HM
    have Hx := Lib.hid hbst
    clear hbst
    have HBX := Lib.hid fun (W3 : World) (b3 : Below W2.heap.size W2 W3) => allocC (P := Try.prog) Try.infoVt rfl W3
    have HIX := Lib.hid fun (W5 : World) (b5 : Below W2.heap.size W2 W5) (p5 : Nat) (h5 : Whole W5 p5 51 (vtc x)) => indexf0 (c := c) ((HR.out.below B2).below b5) hm (x := x) (p := w1.heap.size) (p4 := w1.heap.size + 1) (p5 := p5) (t := t) (by have := k1.lt; have := b5.size; omega) ((b5.cell (p := ⟨w1.heap.size, 0, none⟩) k1.lt).trans cp) (by have := k2.lt; have := b5.size; omega) ((b5.cell (p := ⟨w1.heap.size + 1, 0, none⟩) k2.lt).trans c4) h5 (by omega) (by rw [← Hx.out, HT.out, Int.toNat_natCast] at HF; rw [← Hx.out, HT.out, Int.toNat_natCast]; exact HF.out.1) (fun j hj => HF.out.2 j (by rw [HT.out, Int.toNat_natCast]; exact hj))
    simp only [nwv] at HM HIX
    have HB2 := Lib.hid B2
    clear k1 k2 B2 cp HK
    go_wp2_with (first | (go_at_call 37; refine HM.mono ?_; rintro e W3 ⟨rfl, b3⟩; obtain ⟨W4, al, -, hst⟩ := HBX.out W3 b3; obtain ⟨W5, st, n5⟩ := hst (vtc x) rfl (vtc_one _); change (Instr.storeAt 51 _ (vtv x)).run _ _ = _ at st; have b5 := b3.trans (n5.below.mono b3.size); have HI := HIX.out W5 b5 _ n5.whole; have H5 := Lib.hid b5; clear b3 hst n5 b5) | (refine wpList_alloc_run al rfl rfl ?_) | (refine wpList_store_run st rfl _ _ rfl rfl rfl ?_) | (go_at_call 38; refine HI.mono ?_; rintro e W6 ⟨rfl, b6⟩; have H6 := Lib.hid b6; clear b6))
    go_ret
    refine ⟨by rw [HT.out]; rfl, ?_⟩
    have b5 := HB2.out.trans (H5.out.mono HB2.out.size)
    exact b5.trans (H6.out.mono b5.size)
end Go.Proofs.Ytbfamijlaoopaaa
