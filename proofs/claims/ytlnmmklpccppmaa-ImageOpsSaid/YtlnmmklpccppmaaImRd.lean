/-
  A reader that gives up where what has to come next does not come: contracts of giveUp, must, number and int.
-/
import Derived.Test.YtlnmmklpccppmaaCdReader
import Derived.Test.YtlnmmklpccppmaaImPrs
import Derived.Recover
import Derived.WalkLawsBesides
import Derived.Laws.Rows
import Derived.Laws.ResultCell
namespace Go.Proofs.Ytlnmmklpccppmaa
open Go.RowKit

/-- A result that lies in a box that is known whole. -/
theorem results_c1 {fn : Func} {p : Tmp} {ty t : TypeId} (h : fn.results = #[.cell p ty]) (tmps : Array Value) (w : World) (g : Nat) (cs : List Value)
    (hp : tmps.getD p undef = .pointer (some ⟨g, 0, none⟩)) (hg : Whole w g t cs)
    {fs : _} (hu : Try.prog.underlying ty = some (.struct fs)) (hi : (Try.prog.info? ty).map (·.size) = some cs.length) :
    (results fn tmps).run Try.prog w = .ok (.agg cs.toArray) w := results_cell_row h tmps w g t cs.toArray (0, 0) (.struct fs) hp hg hu rfl (by simpa using hi)
theorem results_c2 {fn : Func} {p u : Tmp} {ty t : TypeId} (h : fn.results = #[.cell p ty, .tmp u]) (tmps : Array Value) (w : World) (g : Nat) (cs : List Value)
    (hp : tmps.getD p undef = .pointer (some ⟨g, 0, none⟩)) (hg : Whole w g t cs)
    {fs : _} (hu : Try.prog.underlying ty = some (.struct fs)) (hi : (Try.prog.info? ty).map (·.size) = some cs.length) :
    (results fn tmps).run Try.prog w = .ok (.tuple #[.agg cs.toArray, tmps.getD u undef]) w := by
  rw [results_cell_tmp h, hp]
  simp [asAddr, run_loadVar_row w g t ty cs.toArray (0, 0) (.struct fs) hg hu rfl (by simpa using hi)]
theorem results_c3 {fn : Func} {p q : Tmp} {ty t t2 : TypeId} (h : fn.results = #[.cell p ty, .cell q 27]) (tmps : Array Value) (w : World) (g g2 : Nat) (cs : List Value) (v : Value)
    (hp : tmps.getD p undef = .pointer (some ⟨g, 0, none⟩)) (hq : tmps.getD q undef = .pointer (some ⟨g2, 0, none⟩)) (hg : Whole w g t cs) (hg2 : Whole w g2 t2 [v])
    {fs : _} (hu : Try.prog.underlying ty = some (.struct fs)) (hi : (Try.prog.info? ty).map (·.size) = some cs.length) :
    (results fn tmps).run Try.prog w = .ok (.tuple #[.agg cs.toArray, v]) w := by
  have hp' : tmps[p]?.getD undef = .pointer (some ⟨g, 0, none⟩) := by simpa using hp
  have hq' : tmps[q]?.getD undef = .pointer (some ⟨g2, 0, none⟩) := by simpa using hq
  have c0 : w.cell? ⟨g2, 0, none⟩ = some v := hg2.cell 0
  have i1 := Try.isAgg27
  simp only [results, h]
  simp [hp', hq', asAddr, run_loadVar_row w g t ty cs.toArray (0, 0) (.struct fs) hg hu rfl (by simpa using hi)]
  simp only [loadVar]
  go_simp

/-- The panic that giving up is. -/
def gone : List PanicEntry := [{ v := .iface 27 (.int .i64 60), recovered := false }]
/-- The reader as a value. -/
def rdv (g : Nat) : Value := .agg #[.pointer (some ⟨g, 0, none⟩)]
set_option maxHeartbeats 400000 in
theorem giveUp_any (w : World) : Calls Try.prog 16 #[] w fun e w' => e = .panicked gone ∧ w = w' := by
  go_enter Try.func16, Try.ntmps16
  go_wp2
  exact ⟨rfl, rfl, rfl⟩
set_option maxHeartbeats 400000 in
theorem mustInt_yes (v : Int) (w : World) : Calls Try.prog 19 #[.int .i64 v, .int .i64 0] w fun e w' => e = .returned (.int .i64 v) ∧ w = w' := by
  go_enter Try.func19, Try.ntmps19
  go_wp2
  go_ret
  exact ⟨rfl, rfl⟩
set_option maxHeartbeats 400000 in
theorem mustInt_no (v er : Int) (w : World) (he : (er != 0) = true) : Calls Try.prog 19 #[.int .i64 v, .int .i64 er] w fun e w' => e = .panicked gone ∧ w = w' := by
  go_enter Try.func19, Try.ntmps19
  go_wp2_with fail
  refine (giveUp_any _).mono ?_
  rintro e w' ⟨rfl, rfl⟩
  go_wp2
  exact ⟨rfl, rfl, rfl⟩

/-- What a reading does: what comes next is read, or it gives up. -/
def Reads {α : Type} (w : World) (g : Nat) (o : Option (α × List UInt8)) (K : α → Value → World → Prop) (e : Ending) (w' : World) : Prop :=
  w.grownBy w' (some g) ∧ match o with
    | some q => ∃ v, e = .returned v ∧ K q.1 v w' ∧ Rdr w' g q.2
    | none => e = .panicked gone
theorem Reads.some_ {α : Type} {w w' : World} {g : Nat} {p : Option (α × List UInt8)} {K : α → Value → World → Prop} {a : α} {r : List UInt8} {v : Value} (hp : p = some (a, r)) (hg : w.grownBy w' (some g)) (hK : K a v w') (hr : Rdr w' g r) : Reads w g p K (.returned v) w' := by
  subst hp
  exact ⟨hg, v, rfl, hK, hr⟩
theorem Reads.none_ {α : Type} {w w' : World} {g : Nat} {p : Option (α × List UInt8)} {K : α → Value → World → Prop} (hp : p = none) (hg : w.grownBy w' (some g)) : Reads w g p K (.panicked gone) w' := by
  subst hp
  exact ⟨hg, rfl⟩
theorem Rdr.keep {w w' : World} {g : Nat} {l : List UInt8} (h : Rdr w g l) (hb : Below w.heap.size w w') (hg : g < w.heap.size) : Rdr w' g l := by
  obtain ⟨A, m, c, hblk, hrd, hnc, hcm⟩ := h
  exact ⟨A, m, c, (hb.block g hg).trans hblk, hrd.below hb, hnc, hcm⟩
theorem Rdr.lt {w : World} {g : Nat} {l : List UInt8} (h : Rdr w g l) : g < w.heap.size := by
  obtain ⟨A, m, c, hblk, -⟩ := h
  rw [Array.getElem?_eq_some_iff] at hblk
  exact hblk.1
theorem Rdr.alloc {w : World} {g : Nat} {l : List UInt8} (h : Rdr w g l) (o : Obj) : Rdr (w.alloc o) g l := h.keep ((Below.refl _ _).alloc (Nat.le_refl _) o) h.lt
theorem grown_of_alloc {w w' : World} {o : Obj} {r : Option Nat} (h : (w.alloc o).grownBy w' r) : w.grownBy w' r := grown_trans (grown_below ((Below.refl _ _).alloc (Nat.le_refl _) o) r) h

/-- No cell of the block is a byte. -/
def NoByte (w : World) (b : Nat) : Prop := ∀ (j : Nat) (x : Int), w.cell? ⟨b, j, none⟩ ≠ some (.int .u8 x)
theorem Rd.apart {w w' : World} {A : Option Addr} {n : Nat} {l : List UInt8} {b : Nat} (h : Rd w A n l) (hb : NoByte w b) (hg : w.grownBy w' (some b)) : Rd w' A n l :=
  ⟨h.len, fun hn => by
    obtain ⟨b', off, e, hlt, hc⟩ := h.at_ hn
    refine ⟨b', off, e, Nat.lt_of_lt_of_le hlt hg.size, fun j x hx => ?_⟩
    have h1 := hc j x hx
    have hne : b' ≠ b := fun e => by subst e; exact hb _ _ h1
    have h2 : w'.heap[b']? = w.heap[b']? := hg.block b' hlt (by simpa using hne)
    rw [World.cell?_of_block (w := w) h2]
    exact h1⟩
/-- A store into a block that was not there. -/
theorem grown_new {w wr : World} {r : Option Nat} (h : w.grownBy wr r) {b : Nat} (hb : w.heap.size ≤ b) (j : Nat) (u : Value) : w.grownBy (wr.setCell ⟨b, j, none⟩ u) r :=
  ⟨h.os, h.tape, h.output, by simpa [World.setCell] using h.size, fun k hk hr => (heap_setCell_other wr ⟨b, j, none⟩ k u (by simp only; omega)).trans (h.block k hk hr)⟩
theorem Rdr.apart {w w' : World} {g b : Nat} {l : List UInt8} (h : Rdr w g l) (hb : NoByte w b) (hne : g ≠ b) (hg : w.grownBy w' (some b)) : Rdr w' g l := by
  have hlt := h.lt
  obtain ⟨A, m, c, hblk, hrd, hnc, hcm⟩ := h
  exact ⟨A, m, c, (hg.block g hlt (by simpa using hne)).trans hblk, hrd.apart hb hg, hnc, hcm⟩
theorem Whole.noByte {w : World} {b : Nat} {t : TypeId} {cs : List Value} (h : Whole w b t cs) (hc : ∀ u ∈ cs, ∀ x, u ≠ .int .u8 x) : NoByte w b := fun j x e => by
  rw [h.cell] at e
  exact hc _ (List.mem_of_getElem? e) x rfl

set_option maxHeartbeats 400000 in
theorem rdInt_any (g : Nat) (l : List UInt8) (w : World) (hr : Rdr w g l) :
    Calls Try.prog 17 #[rdv g] w (Reads w g (pint l) fun n v _ => v = .int .i64 n) := by
  have Hc := Lib.hid (int_any g l (w.alloc (.cells #[.pointer (some ⟨g, 0, none⟩)] 39)) (hr.alloc _))
  unfold rdv
  cases hp : pint l with
  | some q =>
    obtain ⟨n, r⟩ := q
    obtain ⟨h1, h2, h3, h4, _⟩ := pint_some hp
    have Hp := Lib.hid h4
    rw [h1, h2, h3] at Hc
    clear h1 h2 h3 h4 hp
    go_enter Try.func17, Try.ntmps17
    go_wp2_with fail
    refine Calls.mono Hc.out ?_
    rintro e w' ⟨rfl, hr', hg⟩
    go_wp2_with fail
    refine (mustInt_yes _ _).mono ?_
    rintro e w2 ⟨rfl, rfl⟩
    go_wp2
    go_ret
    rw [← Hp.out] at hr'
    exact ⟨grown_of_alloc hg, _, rfl, rfl, hr'⟩
  | none =>
    obtain ⟨h1, h2, h3⟩ := pint_none hp
    rw [h1, h2] at Hc
    have h4 : ((rint l).2.2 != 0) = true := by simp [h3]
    generalize (rint l).2.2 = er at *
    clear h1 h2 h3 hp
    go_enter Try.func17, Try.ntmps17
    go_wp2_with fail
    refine Calls.mono Hc.out ?_
    rintro e w' ⟨rfl, hr', hg⟩
    go_wp2_with fail
    refine (mustInt_no _ _ _ h4).mono ?_
    rintro e w2 ⟨rfl, rfl⟩
    go_wp2
    exact ⟨rfl, grown_of_alloc hg, rfl⟩
end Go.Proofs.Ytlnmmklpccppmaa
