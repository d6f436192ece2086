/-
  The program's own Best, by the library's MaxFunc and IndexFunc: contracts.
-/
import Derived.Test.YtbfamijlaoopaaaVwFnC
import Derived.Test.YtbfamijlaoopaaaBoxC
namespace Go.Proofs.Ytbfamijlaoopaaa
open Go.RowKit
theorem Try.infoVt : (Try.prog.info? 51).map (fun i => (i.zero, i.size, i.bytes)) = some (some (.agg (vtc zvt).toArray), 6, 64) := by kernel_rfl
theorem vtc_one (v : Vt) : ∀ u ∈ vtc v, u.oneCell' = true := by
  intro u hu
  simp only [vtc, Vt.e, List.mem_cons, List.not_mem_nil, or_false] at hu
  rcases hu with rfl | rfl | rfl | rfl | rfl | rfl <;> rfl
theorem results_vC {P : Program} {fn : Func} {p : Tmp} {ty : TypeId} (h : fn.results = #[.cell p ty]) (tmps : Array Value) (w : World) (g : Nat) (cs : List Value) (tb : TypeId) (d : TypeDesc)
    (hp : tmps.getD p undef = .pointer (some ⟨g, 0, none⟩)) (hg : Whole w g tb cs) (hu : P.underlying ty = some d) (hd : d.isRow = true) (hi : (P.info? ty).map (·.size) = some cs.length) :
    (results fn tmps).run P w = .ok (.agg cs.toArray) w := by
  have hp' : tmps[p]?.getD undef = .pointer (some ⟨g, 0, none⟩) := by simpa using hp
  have hl := run_loadVar_mid (P := P) w g 0 ty cs d (rangeC hg) hu hd hi
  simp [results, h, hp', asAddr, hl]
section
variable {w w' : World} {A : Option Addr} {n : Nat} {l : List Vt}
theorem RdT.range (h : RdT w A n l) (h0 : 0 < n) : ∃ b off, A = some ⟨b, off, none⟩ ∧ b < w.heap.size ∧ ∀ j, j < n → w.rangeAt b (off + j * 6) (vtc (l.getD j zvt)) := by
  obtain ⟨b, off, e, hb, hc⟩ := h.rd.at_ h0
  refine ⟨b, off, e, hb, fun j hj i x hx => ?_⟩
  have hl : j < l.length := by have := h.len; omega
  have hg := List.getElem?_eq_getElem hl
  have hd : l.getD j zvt = l[j] := by simp [List.getD, hg]
  rw [hd] at hx
  rw [Nat.add_assoc]
  exact hc (j * 6 + i) x (fm_get vtc_len hg hx)
theorem RdT.at1 {b off : Nat} (h : RdT w (some ⟨b, off, none⟩) n l) {j : Nat} (hj : j < n) : w.rangeAt b (off + j * 6) (vtc (l.getD j zvt)) := by
  obtain ⟨b', off', e, _, hc⟩ := h.range (by omega)
  injection e with e; injection e with e1 e2
  subst e1 e2
  exact hc j hj
end
theorem load_vt {w : World} {b o : Nat} {v : Vt} (h : w.rangeAt b o (vtc v)) : (Instr.loadAt 51 (.pointer (some ⟨b, o, none⟩))).run Try.prog w = .ok (vtv v) w :=
  loadC Try.underlying51 rfl (size_run Try.infoVt) h
def nwv (p : Nat) : Value := .func (.func 35) #[] #[.pointer (some ⟨p, 0, none⟩)]
def MxRel (W : World) (g4 g5 : Nat) (l : List Vt) (i : Value) (wr : World) : Prop := ∃ k : Nat, 1 ≤ k ∧ k ≤ l.length ∧ i = .int .i64 (k : Int) ∧ Hid (Whole wr g4 51 (vtc zvt) ∧ Whole wr g5 51 (vtc (l.getD (bestP l k).toNat zvt)) ∧ Below W.heap.size W wr)
set_option maxRecDepth 20000 in
set_option maxHeartbeats 4000000 in
theorem maxf0 {A : Option Addr} {m c : Nat} {l : List Vt} {w : World} (h : RdT w A m l) (h0 : 0 < m) (hm : m ≤ 1000000) {p : Nat} (hp : p < w.heap.size) (cp : w.cell? ⟨p, 0, none⟩ = some agv) : Calls Try.prog 37 #[.slice A m c, nwv p] w fun e w' => e = .returned (vtv (l.getD (bestP l m).toNat zvt)) ∧ Below w.heap.size w w' := by
  obtain ⟨b, off, rfl, hb, -⟩ := h.range h0
  have HL := Lib.hid h.len
  obtain ⟨W1, al1, n1, -⟩ := allocC (P := Try.prog) Try.infoVt rfl w
  have ld0 := load_vt ((h.below n1.below).at1 h0)
  rw [Nat.zero_mul, Nat.add_zero] at ld0
  obtain ⟨W2a, al2, -, hst⟩ := allocC (P := Try.prog) Try.infoVt rfl W1
  obtain ⟨W2, st2, n2⟩ := hst (vtc (l.getD 0 zvt)) rfl (vtc_one _)
  have NN := Lib.hid fun (W : World) (hW : Below w.heap.size w W) (x y : Vt) => newer0 x y (Nat.lt_of_lt_of_le hp hW.size) ((hW.cell (p := ⟨p, 0, none⟩) hp).trans cp)
  have K1 := n1.whole.below n2.below
  have B2 := n1.below.trans (n2.below.mono n1.below.size)
  have KK := Lib.hid (And.intro K1 (And.intro n2.whole B2))
  have HS1 := Lib.hid n1.size
  have HR := Lib.hid h
  have hnum : ¬ ((m : Int) < 1) := by omega
  clear n1 n2 K1 B2 hst h hp cp hb
  change (Instr.storeAt 51 _ (vtv (l.getD 0 zvt))).run _ _ = _ at st2
  unfold nwv
  go_enter Try.func37, Try.ntmps37
  generalize vtv (l.getD 0 zvt) = v0 at ld0 st2
  go_wp2_with (first | (refine wpList_alloc_run al1 rfl rfl ?_) | (refine wpList_load_run ld0 rfl _ rfl rfl ?_) | (refine wpList_alloc_run al2 rfl rfl ?_) | (refine wpList_store_run st2 rfl _ _ rfl rfl rfl ?_))
  clear al1 al2 st2 ld0 hnum
  have HB1 := Lib.hid (show bestP l 1 = 0 by rw [bestP, if_pos (.inl (by rw [bestP]; omega))]; rfl)
  go_loopw [6] (MxRel w w.heap.size W1.heap.size l) (fun i _ => m - (Go.RowKit.intOf i).toNat)
  case atStart => exact ⟨1, Nat.le_refl _, by have := HL.out; omega, rfl, Lib.hid (by rw [HB1.out]; exact KK.out)⟩
  case round =>
    obtain ⟨k, h1, hk, rfl, HK⟩ := hrel
    rw [HL.out] at hk
    clear KK HB1
    by_cases hlt : k < m
    · have hki : (k : Int) < (m : Int) := by omega
      have hB := bestP_succ l (k := k) (by omega)
      rw [← cmpV_gt] at hB
      obtain ⟨t, ht⟩ : ∃ t : Nat, bestP l k = (t : Int) := ⟨(bestP l k).toNat, by have := (bestP_spec l k (by omega)).1; omega⟩
      rw [ht, Int.toNat_natCast] at hB HK
      have HX := Lib.hid fun (W : World) (hW : Below w.heap.size w W) => (HR.out.below hW).at1 hlt
      have HNX := Lib.hid fun (W : World) (hW : Below w.heap.size w W) => NN.out W hW (l.getD k zvt) (l.getD t zvt)
      obtain ⟨q, hq⟩ : ∃ q, q = l.getD k zvt := ⟨_, rfl⟩
      rw [← hq] at hB HX HNX
      obtain ⟨y, hy⟩ : ∃ y, y = l.getD t zvt := ⟨_, rfl⟩
      rw [← hy] at hB HK HNX
      have HY := Lib.hid hy
      clear hy
      generalize cmpV q y = r at hB HNX
      have HB := Lib.hid hB
      have HQ := Lib.hid hq
      clear hB ht hq
      obtain ⟨x0, x1, x2, x3, x4, x5, x6, x7⟩ := q
      obtain ⟨y0, y1, y2, y3, y4, y5, y6, y7⟩ := y
      simp only [vtv, vtc, Vt.e] at HNX HX HK
      have mkS : ∀ W, Below w.heap.size w W → Whole W W1.heap.size 51 [.int .i64 y0, .int .i64 y1, .int .i64 y2, .int .i64 y3, .int .i64 y4, .slice y5 y6 y7] → W.cell? ⟨b, off + k * 6, none⟩ = some (.int .i64 x0) ∧ W.cell? ⟨b, off + k * 6 + 1, none⟩ = some (.int .i64 x1) ∧ W.cell? ⟨b, off + k * 6 + 2, none⟩ = some (.int .i64 x2) ∧ W.cell? ⟨b, off + k * 6 + 3, none⟩ = some (.int .i64 x3) ∧ W.cell? ⟨b, off + k * 6 + 4, none⟩ = some (.int .i64 x4) ∧ W.cell? ⟨b, off + k * 6 + 5, none⟩ = some (.slice x5 x6 x7) ∧ W.cell? ⟨W1.heap.size, 0, none⟩ = some (.int .i64 y0) ∧ W.cell? ⟨W1.heap.size, 1, none⟩ = some (.int .i64 y1) ∧ W.cell? ⟨W1.heap.size, 2, none⟩ = some (.int .i64 y2) ∧ W.cell? ⟨W1.heap.size, 3, none⟩ = some (.int .i64 y3) ∧ W.cell? ⟨W1.heap.size, 4, none⟩ = some (.int .i64 y4) ∧ W.cell? ⟨W1.heap.size, 5, none⟩ = some (.slice y5 y6 y7) := fun W hb hy => by
        have hx := HX.out W hb
        exact ⟨by have := hx 0 _ rfl; rwa [Nat.add_zero] at this, hx 1 _ rfl, hx 2 _ rfl, hx 3 _ rfl, hx 4 _ rfl, hx 5 _ rfl, hy.cell 0, hy.cell 1, hy.cell 2, hy.cell 3, hy.cell 4, hy.cell 5⟩
      have MS := Lib.hid mkS
      clear mkS
      go_upto_region 7 with fail
      go_region_held3 (fun W => W.cell? ⟨b, off + k * 6, none⟩ = some (.int .i64 x0) ∧ W.cell? ⟨b, off + k * 6 + 1, none⟩ = some (.int .i64 x1) ∧ W.cell? ⟨b, off + k * 6 + 2, none⟩ = some (.int .i64 x2) ∧ W.cell? ⟨b, off + k * 6 + 3, none⟩ = some (.int .i64 x3) ∧ W.cell? ⟨b, off + k * 6 + 4, none⟩ = some (.int .i64 x4) ∧ W.cell? ⟨b, off + k * 6 + 5, none⟩ = some (.slice x5 x6 x7) ∧ W.cell? ⟨W1.heap.size, 0, none⟩ = some (.int .i64 y0) ∧ W.cell? ⟨W1.heap.size, 1, none⟩ = some (.int .i64 y1) ∧ W.cell? ⟨W1.heap.size, 2, none⟩ = some (.int .i64 y2) ∧ W.cell? ⟨W1.heap.size, 3, none⟩ = some (.int .i64 y3) ∧ W.cell? ⟨W1.heap.size, 4, none⟩ = some (.int .i64 y4) ∧ W.cell? ⟨W1.heap.size, 5, none⟩ = some (.slice y5 y6 y7)) (first | exact MS.out _ HK.out.2.2 HK.out.2.1 | exact MS.out _ HK.out.2.2.drew HK.out.2.1.drew | exact MS.out _ HK3.out.2.2 HK3.out.2.1 | exact MS.out _ HK3.out.2.2.drew HK3.out.2.1.drew) (first | (go_at_call 35; refine (HNX.out _ (by first | exact HK.out.2.2 | exact HK.out.2.2.drew)).mono ?_; rintro e w3 ⟨rfl, b3⟩; have HK3 := Lib.hid (And.intro ((by first | exact HK.out.1 | exact HK.out.1.drew : Whole _ w.heap.size 51 _).below b3) (And.intro ((by first | exact HK.out.2.1 | exact HK.out.2.1.drew : Whole _ W1.heap.size 51 _).below b3) ((by first | exact HK.out.2.2 | exact HK.out.2.2.drew : Below w.heap.size w _).trans (b3.mono (by have := HK.out.2.2.size; simpa using this)))))))
      rename_i hH
      clear hH MS NN HNX HK
      by_cases hr : 0 < r
      · have hd : decide (0 < r) = true := by simp [hr]
        have HB2 := Lib.hid (show bestP l (k + 1) = ((k : Nat) : Int) by rw [HB.out, hd]; rfl)
        have ldx := load_vt (v := ⟨x0, x1, x2, x3, x4, x5, x6, x7⟩) (HX.out w3 HK3.out.2.2)
        obtain ⟨W4, st4, K4, g4⟩ := storeC (P := Try.prog) (size_run Try.infoVt) HK3.out.2.1 rfl (cs := vtc ⟨x0, x1, x2, x3, x4, x5, x6, x7⟩) rfl (vtc_one _)
        have HK4 := Lib.hid (And.intro K4 g4)
        clear K4 g4
        change (Instr.storeAt 51 _ (vtv ⟨x0, x1, x2, x3, x4, x5, x6, x7⟩)).run _ _ = _ at st4
        generalize vtv ⟨x0, x1, x2, x3, x4, x5, x6, x7⟩ = vx at ldx st4
        go_wp2_with (first | (refine wpList_load_run ldx rfl _ rfl rfl ?_) | (refine wpList_store_run st4 rfl _ _ rfl rfl rfl ?_))
        go_roundw
        case rel => exact ⟨k + 1, by omega, by have := HL.out; omega, by go_num, Lib.hid ⟨HK3.out.1.grown HK4.out.2 (by have := HS1.out; omega), by rw [HB2.out, Int.toNat_natCast, ← HQ.out]; exact HK4.out.1, HK3.out.2.2.grown HK4.out.2 HK3.out.2.2.size (fun j hj => by cases hj; have := HS1.out; omega)⟩⟩
        case measure => simp [Go.RowKit.intOf]; omega
      · have hd : decide (0 < r) = false := by simp; omega
        have HB2 := Lib.hid (show bestP l (k + 1) = (t : Int) by rw [HB.out, hd]; rfl)

        go_wp2_with fail
        go_roundw
        case rel => exact ⟨k + 1, by omega, by have := HL.out; omega, by go_num, Lib.hid ⟨HK3.out.1, by rw [HB2.out, Int.toNat_natCast, ← HY.out]; exact HK3.out.2.1, HK3.out.2.2⟩⟩
        case measure => simp [Go.RowKit.intOf]; omega
    · obtain rfl : k = m := by omega
      have hki : ¬ ((k : Int) < (k : Int)) := by omega
      have ldb := load_vt (rangeC HK.out.2.1)
      obtain ⟨W4, st4, K4, g4⟩ := storeC (P := Try.prog) (size_run Try.infoVt) HK.out.1 rfl (cs := vtc (l.getD (bestP l k).toNat zvt)) rfl (vtc_one _)
      have HK4 := Lib.hid (And.intro K4 g4)
      clear K4 g4
      change (Instr.storeAt 51 _ (vtv (l.getD (bestP l k).toNat zvt))).run _ _ = _ at st4
      have HV := Lib.hid (rfl : vtv (l.getD (bestP l k).toNat zvt) = vtv (l.getD (bestP l k).toNat zvt))
      generalize hv : vtv (l.getD (bestP l k).toNat zvt) = vx at ldb st4
      have Hv := Lib.hid hv
      clear hv
      go_wp2_with (first | (refine wpList_load_run ldb rfl _ rfl rfl ?_) | (refine wpList_store_run st4 rfl _ _ rfl rfl rfl ?_))
      refine bodyPost_ret (results_vC rfl _ _ _ _ _ _ rfl HK4.out.1 Try.underlying51 rfl (size_run Try.infoVt)) rfl ?_
      exact ⟨rfl, HK.out.2.2.grown HK4.out.2 HK.out.2.2.size (fun j hj => by cases hj; exact Nat.le_refl _)⟩
end Go.Proofs.Ytbfamijlaoopaaa
