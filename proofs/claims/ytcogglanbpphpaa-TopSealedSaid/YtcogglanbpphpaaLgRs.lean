/-
  Package redo: what a sector has by its bytes (readSector): a contract, at bytes 0 and at a sector that was laid.
-/
import Derived.Test.YtcogglanbpphpaaLgLd
namespace Go.Proofs.Ytcogglanbpphpaa
open Go.RowKit

/-- b[i:j] of a slice of bytes. -/
theorem run_mid {P : Program} {t U : TypeId} (ht : P.underlying t = some (.slice U)) (hinfo : (P.info? U).map (fun i => (i.zero, i.size, i.bytes)) = some (some (.int .u8 0), 1, 1)) (A : Option Addr) (n c i j : Nat) (hi : i ≤ j) (hj : j ≤ n) (hc : n ≤ c) :
    ∃ A' : Option Addr, (∀ W : World, (Instr.slice t (.slice A n c) (some (.int .i64 (i : Int))) (some (.int .i64 (j : Int))) none).run P W = .ok (.slice A' (j - i) (c - i)) W) ∧ (∀ (W : World) (l : List UInt8), Rd W A n l → Rd W A' (j - i) ((l.take j).drop i)) := by
  refine ⟨if c = i then A else A.map (·.add i), fun W => ?_, fun W l hr => (hr.take hj).cut hi (by omega)⟩
  have he : P.elem t = U := by simp [Program.elem, ht]
  rw [run_slice_lh W t A n c (by rw [he]; exact ht) .i64 .i64 (i : Int) (j : Int) (by omega) (by omega) (by omega), he, Lib.byte_size hinfo W]
  simp only [Result.andThen, sliced, Int.toNat_natCast, Nat.mul_one]
/-- What a call of one result, a struct in a cell, hands back. -/
theorem lg_results {fn : Func} {p : Tmp} {ty t : TypeId} (h : fn.results = #[.cell p ty]) (tmps : Array Value) (w : World) (g : Nat) (cs : List Value)
    (hp : tmps.getD p undef = .pointer (some ⟨g, 0, none⟩)) (hg : Whole w g t cs)
    {fs : _} (hu : Try.prog.underlying ty = some (.struct fs)) (hi : (Try.prog.info? ty).map (·.size) = some cs.length) :
    (results fn tmps).run Try.prog w = .ok (.agg cs.toArray) w := results_cell_row h tmps w g t cs.toArray (0, 0) (.struct fs) hp hg hu rfl (by simpa using hi)
set_option maxHeartbeats 1000000 in
theorem number_cl {w : World} {v g a : Nat} {r : List UInt8} (hv : w.cell? ⟨v, 0, none⟩ = some (.pointer (some ⟨g, 0, none⟩))) (hr : Rdr w g (be 4 a ++ r)) (ha : a ≤ 2147483647) :
    Calls Try.prog 63 #[.pointer (some ⟨v, 0, none⟩)] w fun e w' => e = .returned (.int .i64 (a : Int)) ∧ Rdr w' g r ∧ w.grownBy w' (some g) := by
  have hc := number_any g _ w hr
  rw [rnum_put a ha r] at hc
  have HC := Lib.hid hc
  clear hc hr
  go_enter Try.func63, Try.ntmps63
  go_wp2_with (first | (go_at_call 65; refine HC.out.mono ?_; rintro e w1 ⟨rfl, hr1, hg1⟩) | (go_at_call 64; refine (right_num_yes _ _).mono ?_; rintro e w2 ⟨rfl, rfl⟩))
  go_ret
  rw [drop_be] at hr1
  exact ⟨rfl, hr1, hg1⟩
theorem padraw (c : Ct) : pad 60 c.raw = be 4 c.kd ++ (be 4 c.ag ++ (be 4 c.nu ++ (be 4 c.pl ++ (be 4 c.sz ++ (be 4 c.tx.length ++ (c.tx ++ List.replicate (60 - c.raw.length) 0)))))) := by
  simp [pad, Ct.raw, Ct.hd, nbs]
theorem Ct.Ok.sealed {c : Ct} (h : c.Ok) : c.laid.take (64 - 4) = pad 60 c.raw := by
  have : (pad 60 c.raw).length = 60 := pad_length (by rw [Ct.raw_length]; have := h.tx; omega)
  rw [Ct.laid, sealOf, List.take_append_of_le_length (by omega), List.take_of_length_le (by omega)]
/-- Bytes don't lie in a block that holds none. -/
theorem Rd.off {w : World} {A : Option Addr} {n : Nat} {l : List UInt8} (h : Rd w A n l) {g : Nat} {t : TypeId} {cs : List Value} (hg : Whole w g t cs) (hcs : ∀ x ∈ cs, ∀ m, x ≠ .int .u8 m) (j : Nat) (v : Value) : Rd (w.setCell ⟨g, j, none⟩ v) A n l :=
  ⟨h.len, fun hn => by
    obtain ⟨b, o, x, e, hb, hx, hc⟩ := h.cell (j := 0) hn
    have hne : b ≠ g := by
      rintro rfl
      rw [hg.cell] at hc
      exact hcs _ (List.mem_of_getElem? hc) _ rfl
    obtain ⟨b', o', e', hb', hc'⟩ := h.at_ hn
    rw [e] at e'
    simp only [Option.some.injEq, Addr.mk.injEq, and_true] at e'
    obtain ⟨rfl, rfl⟩ := e'
    exact ⟨b, o, e, by simpa [World.setCell] using hb, fun j' x' hx' => (World.cell?_of_block (a := ⟨b, o + j', none⟩) ((grown_set w g j v).block b hb (by simpa using hne))).trans (hc' j' x' hx')⟩⟩
theorem Rdr.off {w : World} {r : Nat} {l : List UInt8} (h : Rdr w r l) {g : Nat} {t : TypeId} {cs : List Value} (hg : Whole w g t cs) (hne : r ≠ g) (hcs : ∀ x ∈ cs, ∀ m, x ≠ .int .u8 m) (j : Nat) (v : Value) : Rdr (w.setCell ⟨g, j, none⟩ v) r l := by
  obtain ⟨A, n, c, h1, h2, h3, h4⟩ := h
  exact ⟨A, n, c, ((grown_set w g j v).block r (Array.getElem?_eq_some_iff.1 h1).1 (by simpa using hne)).trans h1, h2.off hg hcs j v, h3, h4⟩
/-- What readSector hands back. -/
def CtPost (w : World) (c : Ct) (e : Ending) (w' : World) : Prop := e = .returned c.val ∧ Below w.heap.size w w'
set_option maxHeartbeats 1000000 in
theorem sector_zero {A : Option Addr} {n : Nat} {w : World} (h : Rd w A 64 zs) : Calls Try.prog 49 #[.slice A 64 n] w (CtPost w Ct.zero) := by
  have h1 := h.alloc (.cells #[.int .i64 0, .int .i64 0, .int .i64 0, .int .i64 0, .int .i64 0, .string ⟨#[]⟩] 57)
  have hb := blank_any (c := n) h1 (by omega)
  rw [allz_zs] at hb
  have B1 : Below w.heap.size w (w.alloc (.cells #[.int .i64 0, .int .i64 0, .int .i64 0, .int .i64 0, .int .i64 0, .string ⟨#[]⟩] 57)) := (Below.refl _ _).alloc (Nat.le_refl _) _
  have K1 := Whole.new w #[.int .i64 0, .int .i64 0, .int .i64 0, .int .i64 0, .int .i64 0, .string ⟨#[]⟩] 57
  clear h h1
  go_enter Try.func49, Try.ntmps49
  go_wp2_with (go_at_call 60; refine hb.mono ?_; rintro e w1 ⟨rfl, rfl⟩)
  refine bodyPost_ret (lg_results rfl _ _ w.heap.size _ rfl K1 Try.underlying57 (by kernel_rfl)) rfl ⟨rfl, B1⟩
set_option maxRecDepth 20000 in
set_option maxHeartbeats 4000000 in
theorem sector_laid {A : Option Addr} {n : Nat} {c : Ct} {w : World} (hc : c.Ok) (h : Rd w A 64 c.laid) (hn : 64 ≤ n) (hm : n ≤ maxLen) : Calls Try.prog 49 #[.slice A 64 n] w (CtPost w c) := by
  have h1 := h.alloc (.cells #[.int .i64 0, .int .i64 0, .int .i64 0, .int .i64 0, .int .i64 0, .string ⟨#[]⟩] 57)
  have hb := blank_any (c := n) h1 (by omega)
  rw [hc.notz] at hb
  have B1 : Below w.heap.size w (w.alloc (.cells #[.int .i64 0, .int .i64 0, .int .i64 0, .int .i64 0, .int .i64 0, .string ⟨#[]⟩] 57)) := (Below.refl _ _).alloc (Nat.le_refl _) _
  have K1 := Whole.new w #[.int .i64 0, .int .i64 0, .int .i64 0, .int .i64 0, .int .i64 0, .string ⟨#[]⟩] 57
  have ho := open_yes A 64 n c.laid _ h1 (by omega) hn hm (by omega) (by rw [hc.sealed]; rfl)
  rw [hc.sealed] at ho
  have hp : (pad 60 c.raw).length = 60 := pad_length (by rw [Ct.raw_length]; have := hc.tx; omega)
  have HP := Lib.hid hp
  have HC := Lib.hid hc
  have H := Lib.hid h
  clear h h1 hp hc
  go_enter Try.func49, Try.ntmps49
  go_wp2_with (first | (go_at_call 60; refine hb.mono ?_; rintro e w1 ⟨rfl, rfl⟩) | (go_at_call 10; refine ho.mono ?_; rintro e w1 ⟨v1, rfl, hown1, hb1⟩; obtain ⟨A1, c1, rfl, hc1, hm1, hr1⟩ := hown1.shapeN HP.out) | (go_at_call 62; refine (right_bytes _ _ _ _).mono ?_; rintro e w2 ⟨rfl, rfl⟩))
  have K2 := K1.below hb1
  have B2 := B1.trans (hb1.mono B1.size)
  clear K1 B1 hb1 hown1 ho hb
  refine (new_any A1 60 c1 _ w2 hr1 (by omega)).mono ?_
  rintro e w3 ⟨g, rfl, hg1, hg2, hr3, hb3⟩
  have K3 := (K2.below hb3).alloc (.cells #[.pointer (some ⟨g, 0, none⟩)] 94)
  have B3 := (B2.trans (hb3.mono B2.size)).alloc (by have := B2.size; have := hb3.size; omega) (.cells #[.pointer (some ⟨g, 0, none⟩)] 94)
  have V3 := Whole.new w3 #[.pointer (some ⟨g, 0, none⟩)] 94
  have hl2 := K2.lt
  have hb2 := B2.size
  have R3 : Rdr (w3.alloc (.cells #[.pointer (some ⟨g, 0, none⟩)] 94)) g (pad 60 c.raw) := by
    obtain ⟨A, n, c, h1, h2, h3, h4⟩ := hr3
    exact ⟨A, n, c, (Below.heap_alloc _ _ _ hg2).trans h1, h2.alloc _, h3, h4⟩
  clear K2 B2 hr1 hb3 hr3
  dsimp only
  go_wp2_with fail
  generalize hv : w3.heap.size = v at V3 hg2 ⊢
  generalize w3.alloc (.cells #[.pointer (some ⟨g, 0, none⟩)] 94) = W at K3 B3 V3 R3 ⊢
  clear hv
  have hgv : v ≠ g := by omega
  have hgw : w.heap.size ≠ g := by omega
  have b1 : c.kd ≤ 2147483647 := by have := HC.out.k2; omega
  have b2 := HC.out.ag
  have b3 := HC.out.nu
  have b4 := HC.out.pl
  have b5 := HC.out.sz
  have b6 := HC.out.tx
  rw [padraw] at R3
  have Hgv := Lib.hid hgv
  have Hgw := Lib.hid hgw
  have Hgr : Hid (w.heap.size ≤ g) := Lib.hid (by omega)
  have HB := Lib.hid B3
  have HK := Lib.hid K3
  have V4 := V3.cell 0
  clear B3 K3 hgv hgw hg1 hg2 hl2 hb2
  refine (number_cl V4 R3 b1).mono ?_
  rintro e w4 ⟨rfl, R4, G4⟩
  clear V4
  have V4 := (V3.grown G4 Hgv.out).cell 0
  have HG := Lib.hid G4
  clear R3 G4
  dsimp only
  go_wp2_with fail
  refine (number_cl V4 R4 b2).mono ?_
  rintro e w5 ⟨rfl, R5, G5⟩
  have HG := Lib.hid (grown_trans HG.out G5)
  clear V4
  have V5 := (V3.grown HG.out Hgv.out).cell 0
  clear R4 G5
  dsimp only
  go_wp2_with fail
  refine (number_cl V5 R5 b3).mono ?_
  rintro e w6 ⟨rfl, R6, G6⟩
  have HG := Lib.hid (grown_trans HG.out G6)
  clear V5
  have V6 := (V3.grown HG.out Hgv.out).cell 0
  clear R5 G6
  dsimp only
  go_wp2_with fail
  refine (number_cl V6 R6 b4).mono ?_
  rintro e w7 ⟨rfl, R7, G7⟩
  have HG := Lib.hid (grown_trans HG.out G7)
  clear V6
  have V7 := (V3.grown HG.out Hgv.out).cell 0
  clear R6 G7
  dsimp only
  go_wp2_with fail
  refine (number_cl V7 R7 b5).mono ?_
  rintro e w8 ⟨rfl, R8, G8⟩
  have HG := Lib.hid (grown_trans HG.out G8)
  clear V7
  have V8 : w8.cell? ⟨v, 0, none⟩ = some (.pointer (some ⟨g, 0, none⟩)) := (V3.grown HG.out Hgv.out).cell 0
  have V9 : ∀ o, (w8.alloc o).cell? ⟨v, 0, none⟩ = some (.pointer (some ⟨g, 0, none⟩)) := fun o => ((V3.grown HG.out Hgv.out).alloc o).cell 0
  clear R7 G8
  dsimp only
  go_wp2_with fail
  clear V9
  have KC := Whole.new w8 #[.int .i64 (c.kd : Int), .int .i64 (c.ag : Int), .int .i64 (c.nu : Int), .int .i64 (c.pl : Int), .int .i64 (c.sz : Int), .string ⟨#[]⟩] 57
  have G9 := grown_trans HG.out (grown_below ((Below.refl w8.heap.size w8).alloc (Nat.le_refl _) (.cells #[.int .i64 (c.kd : Int), .int .i64 (c.ag : Int), .int .i64 (c.nu : Int), .int .i64 (c.pl : Int), .int .i64 (c.sz : Int), .string ⟨#[]⟩] 57)) (some g))
  have R9 : Rdr (w8.alloc (.cells #[.int .i64 (c.kd : Int), .int .i64 (c.ag : Int), .int .i64 (c.nu : Int), .int .i64 (c.pl : Int), .int .i64 (c.sz : Int), .string ⟨#[]⟩] 57)) g (be 4 c.tx.length ++ (c.tx ++ List.replicate (60 - c.raw.length) 0)) := by
    obtain ⟨A, n, c, h1, h2, h3, h4⟩ := R8
    have hg : g < w8.heap.size := (Array.getElem?_eq_some_iff.1 h1).1
    exact ⟨A, n, c, (Below.heap_alloc _ _ _ hg).trans h1, h2.alloc _, h3, h4⟩
  have hgc : w8.heap.size ≠ g := by
    obtain ⟨A, n, c, h1, h2, h3, h4⟩ := R8
    have hg : g < w8.heap.size := (Array.getElem?_eq_some_iff.1 h1).1
    omega
  have hW8 := HG.out.size
  have hWB := HB.out.size
  have hWK := HK.out.lt
  generalize hcb : w8.heap.size = cb at KC R9 hgc hW8 ⊢
  generalize w8.alloc (.cells #[.int .i64 (c.kd : Int), .int .i64 (c.ag : Int), .int .i64 (c.nu : Int), .int .i64 (c.pl : Int), .int .i64 (c.sz : Int), .string ⟨#[]⟩] 57) = W9 at KC G9 R9 ⊢
  have HW8 := Lib.hid (And.intro hcb (And.intro hW8 (And.intro hWB hWK)))
  clear hcb hW8 hWB hWK V8 R8 b1 b2 b3 b4 b5
  have kt := text_any g _ W9 R9
  rw [rtext_put c.tx (by omega)] at kt
  dsimp only at kt
  obtain ⟨lf, hlf⟩ : ∃ lf, lf = 60 - c.raw.length := ⟨_, rfl⟩
  rw [← hlf] at kt R9
  have hrl := c.raw_length
  have hlf36 : lf = 36 - c.tx.length := by omega
  obtain ⟨A2, hsl, hsr⟩ := run_mid (P := Try.prog) Try.underlying32 Try.infoU8 A 64 n (60 - lf) 60 (by omega) (by omega) hn
  rw [show (((60 - lf : Nat)) : Int) = 60 - (lf : Int) by omega] at hsl
  simp only [Int.cast_ofNat_Int] at hsl
  have hzz : (c.laid.take 60).drop (60 - lf) = List.replicate lf 0 := by
    have := HC.out.sealed
    rw [show 64 - 4 = 60 from rfl] at this
    rw [this, show 60 - lf = 24 + c.tx.length by omega, c.behind, hlf]
  have HZZ := Lib.hid hzz
  have Hlf := Lib.hid (And.intro hlf (And.intro hlf36 hrl))
  have hcl : lf ≤ 36 := by omega
  have he0 : ((c.tx.length : Int)) ≤ 36 := by omega
  have hkd : ¬ (c.kd : Int) = 0 := by have := HC.out.k1; omega
  have hkn : ((c.kd : Int) != 0) = true := by simpa using hkd
  have HR9 := Lib.hid R9
  have Hsr := Lib.hid hsr
  have Hgc := Lib.hid hgc
  have hdr : (be 4 c.tx.length ++ (c.tx ++ List.replicate lf 0)).drop (4 + c.tx.length) = List.replicate lf 0 := by
    rw [← List.append_assoc, List.drop_append_of_le_length (by simp [be_length]), List.drop_of_length_le (by simp [be_length]), List.nil_append]
  have Hdr := Lib.hid hdr
  clear hzz hlf hlf36 hrl R9 hsr hgc hdr
  refine kt.mono ?_
  rintro e w10 ⟨rfl, R10, G10⟩
  rw [Hdr.out] at R10
  have KC0 := KC.grown G10 Hgc.out
  have x5 := KC0.cell 5
  have z5 := KC0.free 5
  have G11 := grown_trans G9 G10
  have V10 := V3.grown G11 Hgv.out
  obtain ⟨e1, e2, e3, e4⟩ := HW8.out
  have hvc : v ≠ cb := by
    have := V3.lt
    omega
  have hrc : w.heap.size ≠ cb := by omega
  have B10 : Below w.heap.size w w10 := below_grown HB.out G11 e3 (by have := Hgr.out; omega)
  have hs10 := G11.size
  have K12 : Whole (w10.setCell ⟨cb, 5, none⟩ (.string ⟨c.tx.toArray⟩)) cb 57 c.cs := KC0.set 5 (.string ⟨c.tx.toArray⟩)
  have B12 : Below w.heap.size w (w10.setCell ⟨cb, 5, none⟩ (.string ⟨c.tx.toArray⟩)) := below_grown B10 (grown_set w10 cb 5 (.string ⟨c.tx.toArray⟩)) B10.size (by omega)
  have R12 := R10.off KC0 Hgc.out.symm (by
    intro x hx m
    simp at hx
    rcases hx with rfl | rfl | rfl | rfl | rfl | rfl <;> simp) 5 (.string ⟨c.tx.toArray⟩)
  have KR := (HK.out.grown G11 Hgw.out).grown (grown_set w10 cb 5 (.string ⟨c.tx.toArray⟩)) hrc
  have V12 : (w10.setCell ⟨cb, 5, none⟩ (.string ⟨c.tx.toArray⟩)).cell? ⟨v, 0, none⟩ = some (.pointer (some ⟨g, 0, none⟩)) := (V10.grown (grown_set w10 cb 5 (.string ⟨c.tx.toArray⟩)) hvc).cell 0
  clear KC KC0 HR9 G9 G10 G11 V10 B10 e1 e2 e3 e4 R10
  dsimp only
  go_upto_region 7 with (go_at_call 66; refine (right_text _ _).mono ?_; rintro e w11 ⟨rfl, rfl⟩)
  clear kt x5 z5
  generalize w11.setCell ⟨cb, 5, none⟩ (.string ⟨c.tx.toArray⟩) = W12 at K12 B12 R12 KR V12 ⊢
  have hL := left_any g _ W12 R12
  rw [List.length_replicate] at hL
  have hS := Hsr.out W12 c.laid (H.out.below B12)
  rw [HZZ.out] at hS
  rw [show 60 - (60 - lf) = lf by omega] at hsl hS
  have hbl := blank_any (c := n - (60 - lf)) hS (by omega)
  rw [allz_reps] at hbl
  have x0 : W12.cell? ⟨cb, 0, none⟩ = some (.int .i64 (c.kd : Int)) := K12.cell 0
  have x1 : W12.cell? ⟨cb, 1, none⟩ = some (.int .i64 (c.ag : Int)) := K12.cell 1
  have x2 : W12.cell? ⟨cb, 2, none⟩ = some (.int .i64 (c.nu : Int)) := K12.cell 2
  have x3 : W12.cell? ⟨cb, 3, none⟩ = some (.int .i64 (c.pl : Int)) := K12.cell 3
  have x4 : W12.cell? ⟨cb, 4, none⟩ = some (.int .i64 (c.sz : Int)) := K12.cell 4
  have x5 : W12.cell? ⟨cb, 5, none⟩ = some (.string ⟨c.tx.toArray⟩) := K12.cell 5
  clear R12 hS hvc
  go_upto_region 8 with (first | (go_at_call 68; refine hL.mono ?_; rintro e w12 ⟨rfl, hw12⟩; subst hw12) | (go_at_call 60; refine hbl.mono ?_; rintro e w13 ⟨rfl, hw13⟩; subst w13) | (go_at_call 35; refine (insist_yes _).mono ?_; rintro e w14 ⟨rfl, hw14⟩; subst w14))
  clear hL hbl hsl V12
  have r0 := KR.cell 0
  have r1 := KR.cell 1
  have r2 := KR.cell 2
  have r3 := KR.cell 3
  have r4 := KR.cell 4
  have r5 := KR.cell 5
  have z0 := KR.free 0
  have z1 := KR.free 1
  have z2 := KR.free 2
  have z3 := KR.free 3
  have z4 := KR.free 4
  have z5 := KR.free 5
  simp only [List.getElem?_cons_succ, List.getElem?_cons_zero] at r0 r1 r2 r3 r4 r5
  have KF : Whole (((((((W12.setCell ⟨w.heap.size, 0, none⟩ (.int .i64 (c.kd : Int))).setCell ⟨w.heap.size, 1, none⟩ (.int .i64 (c.ag : Int))).setCell ⟨w.heap.size, 2, none⟩ (.int .i64 (c.nu : Int))).setCell ⟨w.heap.size, 3, none⟩ (.int .i64 (c.pl : Int))).setCell ⟨w.heap.size, 4, none⟩ (.int .i64 (c.sz : Int))).setCell ⟨w.heap.size, 5, none⟩ (.string ⟨c.tx.toArray⟩))) w.heap.size 57 c.cs :=
    (((((KR.set 0 _).set 1 _).set 2 _).set 3 _).set 4 _).set 5 _
  have BF := below_grown B12 (grown_sets6 (wr := W12) (b := w.heap.size) (o := 0) (.int .i64 (c.kd : Int)) (.int .i64 (c.ag : Int)) (.int .i64 (c.nu : Int)) (.int .i64 (c.pl : Int)) (.int .i64 (c.sz : Int)) (.string ⟨c.tx.toArray⟩)) B12.size (Nat.le_refl _)
  have HF := Lib.hid (And.intro KF BF)
  clear KF BF K12 B12 KR
  go_wp2
  exact bodyPost_ret (lg_results rfl _ _ w.heap.size c.cs rfl HF.out.1 Try.underlying57 (by kernel_rfl)) rfl ⟨rfl, HF.out.2⟩
/-- What a sector has is told by its bytes. -/
theorem readSector_any {A : Option Addr} {n : Nat} {x : List UInt8} {c : Ct} {w : World} (hc : Sec x c) (h : Rd w A 64 x) (hn : 64 ≤ n) (hm : n ≤ maxLen) : Calls Try.prog 49 #[.slice A 64 n] w (CtPost w c) := by
  rcases hc with ⟨rfl, rfl⟩ | ⟨hc, rfl⟩
  · exact sector_zero h
  · exact sector_laid hc h hn hm
end Go.Proofs.Ytcogglanbpphpaa
