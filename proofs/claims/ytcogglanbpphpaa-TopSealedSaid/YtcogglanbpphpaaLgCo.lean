/-
  Package redo: what a part's sectors have (contents): a contract.
-/
import Derived.Test.YtcogglanbpphpaaLgSt
namespace Go.Proofs.Ytcogglanbpphpaa
open Go.RowKit

theorem madeCt (w : World) (n : Nat) : CtBlk (w.alloc (.cells (madeCells #[.int .i64 0, .int .i64 0, .int .i64 0, .int .i64 0, .int .i64 0, .string ⟨#[]⟩] (n * 6)) 57)) w.heap.size n (fun _ => Ct.zero) := by
  refine ⟨_, Whole.new w _ 57, by simp [size_madeCells], fun j hj i v hv => ?_⟩
  have hi : i < 6 := (List.getElem?_eq_some_iff.1 hv).1
  have hm : (j * 6 + i) % 6 = i := by omega
  rw [Array.getElem?_toList, Array.getElem?_eq_getElem (by simp [size_madeCells]; omega)]
  simp only [madeCells]
  rcases (by omega : i = 0 ∨ i = 1 ∨ i = 2 ∨ i = 3 ∨ i = 4 ∨ i = 5) with rfl | rfl | rfl | rfl | rfl | rfl <;> simp_all [Ct.cs, Ct.zero, sv]
theorem make_cts {k : Nat} (hk : k ≤ 4096) (W : World) : (Instr.makeSlice 69 (.int .i64 (k : Int)) (.int .i64 (k : Int))).run Try.prog W = .ok (.slice (some ⟨W.heap.size, 0, none⟩) k k) (W.alloc (.cells (madeCells #[.int .i64 0, .int .i64 0, .int .i64 0, .int .i64 0, .int .i64 0, .string ⟨#[]⟩] (k * 6)) 57)) := by
  obtain ⟨i0, hi, hz0, hz1, hz2⟩ := info_parts Try.infoCt
  have h := run_make (P := Try.prog) W 69 57 i0 _ Try.underlying69 hi hz0 .i64 .i64 (k : Int) (k : Int) (by omega) (by omega) (by rw [hz2]; omega) (by omega)
  rw [h, Int.toNat_natCast, hz1]
  rfl
/-- What contents hands back. -/
def CosPost (w : World) (n : Nat) (C : Nat → Ct) (e : Ending) (w' : World) : Prop := ∃ b, e = .returned (.slice (some ⟨b, 0, none⟩) n n) ∧ CtBlk w' b n C ∧ w.heap.size ≤ b ∧ Below w.heap.size w w'
theorem readSector_cells {A : Option Addr} {n : Nat} {x : List UInt8} {c : Ct} {w : World} (hc : Sec x c) (h : Rd w A 64 x) (hn : 64 ≤ n) (hm : n ≤ maxLen) :
    Calls Try.prog 49 #[.slice A 64 n] w fun e w' => e = .returned (.agg #[.int .i64 (c.kd : Int), .int .i64 (c.ag : Int), .int .i64 (c.nu : Int), .int .i64 (c.pl : Int), .int .i64 (c.sz : Int), .string ⟨c.tx.toArray⟩]) ∧ Below w.heap.size w w' :=
  readSector_any hc h hn hm
theorem CtBlk.congr {w : World} {g n : Nat} {C C' : Nat → Ct} (h : CtBlk w g n C) (he : ∀ j, j < n → C j = C' j) : CtBlk w g n C' := by
  obtain ⟨l, h1, h2, h3⟩ := h
  exact ⟨l, h1, h2, fun j hj i v hv => h3 j hj i v (by rw [he j hj]; exact hv)⟩
/-- So many of them are read. -/
def upTo (C : Nat → Ct) (k : Nat) : Nat → Ct := fun j => if j < k then C j else Ct.zero
theorem upTo_succ (C : Nat → Ct) (k : Nat) : (fun j => if j = k then C k else upTo C k j) = upTo C (k + 1) := by
  funext j
  unfold upTo
  by_cases h : j = k
  · subst h
    simp
  · by_cases h2 : j < k
    · rw [if_neg h, if_pos h2, if_pos (by omega)]
    · rw [if_neg h, if_neg h2, if_neg (by omega)]
section
variable {w : World} {g p fr se ag fi st q r n : Nat} {z : Value} {S : Dk} {C : Nat → Ct}
set_option maxRecDepth 20000 in
set_option maxHeartbeats 1000000 in
theorem contents_any (h : LAt w g p fr se ag fi st z) (hd : DAt w p q r n S) (h1 : fr + se ≤ n) (h2 : 1 ≤ se) (hC : ∀ j, j < se → Sec (S.now (fr + j)) (C j)) :
    Calls Try.prog 34 #[.pointer (some ⟨g, 0, none⟩)] w (CosPost w se C) := by
  have c2 := h.c2
  have hn := hd.most
  have hmk := make_cts (k := se) (by omega)
  have hM := madeCt w se
  have hb0 : Below w.heap.size w (w.alloc (.cells (madeCells #[.int .i64 0, .int .i64 0, .int .i64 0, .int .i64 0, .int .i64 0, .string ⟨#[]⟩] (se * 6)) 57)) := (Below.refl _ _).alloc (Nat.le_refl _) _
  generalize Obj.cells (madeCells #[.int .i64 0, .int .i64 0, .int .i64 0, .int .i64 0, .int .i64 0, .string ⟨#[]⟩] (se * 6)) 57 = ob at hmk hM hb0
  have HL := Lib.hid h
  have HD := Lib.hid hd
  have HC := Lib.hid hC
  clear h hd hC
  go_enter Try.func34, Try.ntmps34
  go_wp2
  clear hmk c2
  go_loopw [12] (fun i wr => ∃ k : Nat, k ≤ se ∧ i = .int .i64 (k : Int) ∧ CtBlk wr w.heap.size se (upTo C k) ∧ Below w.heap.size w wr) (fun i _ => se - (Go.RowKit.intOf i).toNat)
  case atStart => exact ⟨0, Nat.zero_le _, rfl, hM.congr fun j hj => rfl, hb0⟩
  case round =>
    obtain ⟨k, hk, rfl, hK, hb⟩ := hrel
    clear hM hb0
    by_cases hlt : k < se
    · have hs := HC.out k hlt
      have hL := (HL.out.below hb).drew
      have hD := (HD.out.below hb).drew
      have hx := hD.len (fr + k) (by omega)
      have hsz := HL.out.lt
      have hRd := read_any hD ((fr + k : Nat) : Int) (l := S.now (fr + k)) (er := 0) (by rw [rdL, if_pos (by omega), Int.toNat_natCast]) (by rw [rdE, if_pos (by omega)])
      rw [Int.natCast_add] at hRd
      have S1 := Lib.hid (And.intro hL.c0 hL.c1)
      have HB := Lib.hid (show Below w.heap.size w wr.drew from hb.drew)
      have HK := Lib.hid (show CtBlk wr.drew w.heap.size se (upTo C k) from hK)
      have HLL := Lib.hid hL
      have HS := Lib.hid hs
      have HX := Lib.hid hx
      have Hsz := Lib.hid hsz
      clear hs hL hD hx hb hK hsz
      go_wp2_with fail
      have HRd := Lib.hid hRd
      have hwr : IntKind.i64.wrap ((fr : Int) + (k : Int)) = (fr : Int) + (k : Int) := IntWalk.i64_in _ (by omega)
      have d0 := S1.out.1
      have d1 := S1.out.2
      clear hRd S1
      go_region_with (first | (go_at_call 51; refine HRd.out.mono ?_; rintro e w1 ⟨v1, rfl, hown1, hb1⟩; obtain ⟨A1, c1, rfl, hc1, hm1, hr1⟩ := hown1.shapeN HX.out; have HR1 := Lib.hid hr1; have HB1 := Lib.hid hb1; clear d0 d1 hown1 hb1 hr1) | (go_at_call 50; refine (need_yes _ _ _ _).mono ?_; rintro e w2 ⟨rfl, rfl⟩) | (go_at_call 49; refine (readSector_cells HS.out HR1.out hc1 hm1).mono ?_; rintro e w3 ⟨rfl, hb3⟩; have hb4 := HB1.out.trans (hb3.mono HB1.out.size); have HK3 := Lib.hid (HK.out.below hb4); have HB3 := Lib.hid (HB.out.trans (hb4.mono HB.out.size)); obtain ⟨v0, y0⟩ := HK3.out.cell hlt (i := 0) (by omega); obtain ⟨v1, y1⟩ := HK3.out.cell hlt (i := 1) (by omega); obtain ⟨v2, y2⟩ := HK3.out.cell hlt (i := 2) (by omega); obtain ⟨v3, y3⟩ := HK3.out.cell hlt (i := 3) (by omega); obtain ⟨v4, y4⟩ := HK3.out.cell hlt (i := 4) (by omega); obtain ⟨v5, y5⟩ := HK3.out.cell hlt (i := 5) (by omega); have z0 := HK3.out.free (k * 6); have z1 := HK3.out.free (k * 6 + 1); have z2 := HK3.out.free (k * 6 + 2); have z3 := HK3.out.free (k * 6 + 3); have z4 := HK3.out.free (k * 6 + 4); have z5 := HK3.out.free (k * 6 + 5); rw [Nat.add_zero] at y0; clear hb3 hb4))
      all_goals (
        have hKF := HK3.out.set hlt (C k)
        rw [upTo_succ] at hKF
        have hBF := below_grown HB3.out (grown_sets6 (wr := w3) (b := w.heap.size) (o := k * 6) (.int .i64 ((C k).kd : Int)) (.int .i64 ((C k).ag : Int)) (.int .i64 ((C k).nu : Int)) (.int .i64 ((C k).pl : Int)) (.int .i64 ((C k).sz : Int)) (.string ⟨(C k).tx.toArray⟩)) HB3.out.size (Nat.le_refl _)
        have HF := Lib.hid (And.intro hKF hBF)
        clear hKF hBF HK3 HB3 y0 y1 y2 y3 y4 y5 z0 z1 z2 z3 z4 z5 HRd HS HLL HR1 HB1
        go_wp2
        go_roundw
        case rel => exact ⟨k + 1, hlt, by go_num, HF.out.1, HF.out.2⟩
        case measure => simp [Go.RowKit.intOf]; omega)
    · obtain rfl : k = se := by omega
      clear hlt
      go_wp2
      go_ret
      exact ⟨w.heap.size, rfl, hK.congr fun j hj => by rw [upTo, if_pos hj], Nat.le_refl _, hb⟩
end
end Go.Proofs.Ytcogglanbpphpaa
