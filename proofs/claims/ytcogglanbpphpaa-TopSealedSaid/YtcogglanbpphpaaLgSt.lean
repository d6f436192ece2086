/-
  Package redo: the part's name; the root is laid down (settle): contracts at a disk that has not stopped.
-/
import Derived.Test.YtcogglanbpphpaaLgWr
import Derived.Deep.RegionHeld3
namespace Go.Proofs.Ytcogglanbpphpaa
open Go.RowKit

def nameOf (fr se : Nat) : List UInt8 := nbs [fr, se]
theorem nameOf_length (fr se : Nat) : (nameOf fr se).length = 8 := by simp [nameOf, nbs_length]
/-- A string that a call tells. -/
def TellsS (w : World) (l : List UInt8) (e : Ending) (w' : World) : Prop := e = .returned (.string ⟨l.toArray⟩) ∧ Below w.heap.size w w'
section
variable {w : World} {g p fr se ag fi st q r n : Nat} {z : Value} {S : Dk}
set_option maxHeartbeats 2000000 in
theorem name_any (h : LAt w g p fr se ag fi st z) (h1 : fr ≤ 4096) (h2 : se ≤ 4096) : Calls Try.prog 36 #[.pointer (some ⟨g, 0, none⟩)] w (TellsS w (nameOf fr se)) := by
  have c1 := h.drew.c1
  have c2 := h.drew.c2
  have hb0 : Below w.heap.size w (w.drew.alloc (.cells #[.int .i64 (fr : Int), .int .i64 (se : Int)] 3)) := (Below.refl _ _).drew.alloc (Nat.le_refl _) _
  have K := fun W => numbers_any (A := some ⟨w.drew.heap.size, 0, none⟩) (n := 2) (c := 2) (l := [fr, se]) (w := W)
  have hr := (Whole.new w.drew #[.int .i64 (fr : Int), .int .i64 (se : Int)] 3).rd
  have K1 := K (w.drew.alloc (.cells #[.int .i64 (fr : Int), .int .i64 (se : Int)] 3)) (by simpa [nts] using hr) (by omega) (by intro x hx; simp at hx; omega)
  have hl : (nbs [fr, se]).length = 8 := by simp [nbs_length]
  have HL := Lib.hid hl
  have HB := Lib.hid hb0
  have hK := Lib.hid K1
  clear h K hr K1 hl hb0
  unfold nameOf
  go_enter Try.func36, Try.ntmps36
  go_wp2_with fail
  go_region_with (go_at_call 52; refine hK.out.mono ?_; rintro e w1 ⟨v1, rfl, hown1, hb1⟩; obtain ⟨A1, c1', rfl, hc1, hm1, hr1⟩ := hown1.shapeN HL.out; have kc := hr1.conv (P := Try.prog) c1' 32 5 9 Try.underlying32 Try.underlying5 Try.underlying9; have HF := Lib.hid (HB.out.trans (hb1.mono HB.out.size)); clear hown1 hb1 hr1)
  all_goals (
    go_wp2
    go_ret
    exact ⟨rfl, HF.out⟩)
/-- The root of a log. -/
def rootC (fr se ag fi st m : Nat) : Ct := ⟨1, ag, fi, st, m, nameOf fr se⟩
theorem rootC_ok {fr se ag fi st m : Nat} (h1 : ag ≤ 2147483647) (h2 : fi ≤ 2147483647) (h3 : st ≤ 2147483647) (h4 : m ≤ 2147483647) : (rootC fr se ag fi st m).Ok :=
  ⟨by simp [rootC], by simp [rootC], h1, h2, h3, h4, by show (nameOf fr se).length ≤ 36; rw [nameOf_length]; omega⟩
/-- What settle leaves of a disk. -/
def settleS (S : Dk) (fr se ag fi st m : Nat) : Dk := flushS (setS (flushS S) fr (rootC fr se ag fi st m).laid)
set_option maxRecDepth 100000 in
set_option maxHeartbeats 4000000 in
theorem settle_any {A : Option Addr} {m c : Nat} (h : LAt w g p fr se ag fi st (.slice A m c)) (hd : DAt w p q r n S) (hg : Goes S) (hgx : ¬ ds p q r g) (h1 : fr < n) (h2 : se ≤ 4096) (h3 : ag ≤ 2147483647) (h4 : fi ≤ 2147483647) (h5 : st ≤ 2147483647) (h6 : m ≤ 2147483647) :
    Calls Try.prog 16 #[.pointer (some ⟨g, 0, none⟩)] w (Did w p q r n (settleS S fr se ag fi st m)) := by
  have c0 := h.c0
  have HC := Lib.hid (rootC_ok (fr := fr) (se := se) h3 h4 h5 h6)
  have hF := flush_any hd (flS_flush hg).symm (flE_flush hg).symm
  have HG := Lib.hid hg.flush
  have HL := Lib.hid h
  have Hgx := Lib.hid hgx
  have hn := hd.most
  clear h hd hg hgx
  obtain ⟨T, hT⟩ : ∃ T, T = settleS S fr se ag fi st m := ⟨_, rfl⟩
  rw [← hT]
  have HT := Lib.hid hT
  clear hT
  go_enter Try.func16, Try.ntmps16
  go_wp2_with (first | (go_at_call 27; refine hF.mono ?_; rintro e w1 ⟨rfl, hD1, hO1⟩) | (go_at_call 39; refine (done_yes _).mono ?_; rintro e w3 ⟨rfl, rfl⟩))
  have hL1 := HL.out.oth hO1 Hgx.out
  have HL1 := Lib.hid hL1.drew
  have HD1 := Lib.hid hD1.drew
  have HO1 := Lib.hid (show Oth (ds p q r) w w3.drew from hO1.drew)
  have d1 := hL1.drew.c1
  have d3 := hL1.drew.c3
  have d4 := hL1.drew.c4
  have d5 := hL1.drew.c5
  have d6 := hL1.drew.c6
  clear hL1 hD1 hO1 c0 hF
  have hW : ∀ W, LAt W g p fr se ag fi st (.slice A m c) → DAt W p q r n (flushS S) → Calls Try.prog 22 #[.pointer (some ⟨g, 0, none⟩), .int .i64 (fr : Int), .agg #[.int .i64 1, .int .i64 (ag : Int), .int .i64 (fi : Int), .int .i64 (st : Int), .int .i64 (m : Int), .string ⟨(nameOf fr se).toArray⟩]] W (Did W p q r n (setS (flushS S) fr (rootC fr se ag fi st m).laid)) := fun W hL hD => write_log hL hD HG.out h1 HC.out
  have HW := Lib.hid hW
  clear hW
  have S1 := Lib.hid (And.intro d1 (And.intro d3 (And.intro d4 (And.intro d5 d6))))
  clear d1 d3 d4 d5 d6
  go_region_held3 (fun w' => w'.cell? ⟨g, 1, none⟩ = some (.int .i64 (fr : Int)) ∧ w'.cell? ⟨g, 3, none⟩ = some (.int .i64 (ag : Int)) ∧ w'.cell? ⟨g, 4, none⟩ = some (.int .i64 (fi : Int)) ∧ w'.cell? ⟨g, 5, none⟩ = some (.int .i64 (st : Int)) ∧ w'.cell? ⟨g, 6, none⟩ = some (.slice A m c)) (first | exact S1.out | exact S4.out | exact S5.out) (first | (go_at_call 36; refine (name_any HL1.out (by omega) h2).mono ?_; rintro e w4 ⟨rfl, hb4⟩; have HL4 := Lib.hid (HL1.out.below hb4); have HD4 := Lib.hid (HD1.out.below hb4); have HO4 := Lib.hid (HO1.out.trans (Oth.of_below hb4 (ds p q r))); have S4 := Lib.hid (And.intro HL4.out.c1 (And.intro HL4.out.c3 (And.intro HL4.out.c4 (And.intro HL4.out.c5 HL4.out.c6)))); clear hb4) | (go_at_call 22; refine (HW.out _ HL4.out HD4.out).mono ?_; rintro e w5 ⟨rfl, hD5, hO5⟩; have HL5 := Lib.hid (HL4.out.oth hO5 Hgx.out); have HD5 := Lib.hid hD5; have HO5 := Lib.hid (HO4.out.trans hO5); have S5 := Lib.hid (And.intro HL5.out.c1 (And.intro HL5.out.c3 (And.intro HL5.out.c4 (And.intro HL5.out.c5 HL5.out.c6)))); clear hD5 hO5))
  all_goals (
    have hL6 := HL5.out
    have hF6 := flush_any HD5.out (flS_flush (HG.out.set fr (rootC fr se ag fi st m).laid)).symm (flE_flush (HG.out.set fr (rootC fr se ag fi st m).laid)).symm
    have g0 := hL6.c0
    clear hL6 HL1 HD1 HO1 HL4 HD4 HO4 HL5 HD5 S1 S4 S5 HL
    go_wp2_with (first | (go_at_call 27; refine hF6.mono ?_; rintro e w6 ⟨rfl, hD6, hO6⟩) | (go_at_call 39; refine (done_yes _).mono ?_; rintro e w7 ⟨rfl, rfl⟩))
    have HF := Lib.hid (And.intro hD6 (HO5.out.trans hO6))
    clear hD6 hO6
    go_end0
    exact ⟨rfl, by rw [HT.out]; exact HF.out.1, HF.out.2⟩)
end
end Go.Proofs.Ytcogglanbpphpaa
