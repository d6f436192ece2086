/-
  A reader that gives up where what has to come next does not come: contracts of giveUp, must, number and int.
  Bytes behind which more are laid: contracts of numbers, ints and text.
  PutOp: seven ints; the document's own answer is the same bytes.
  A reader reads an operation: seven ints.
  The whole of some bytes is read, or nothing: the deferred function that recovers, and whole, at an operation.
-/
import Derived.Test.YtlnmmklpccppmaaGreatDoorSg34
import Derived.Recover
import Derived.WalkLawsBesides
import Derived.Laws.Rows
import Derived.Laws.ResultCell
import Derived.Deep.RegionWith
import Derived.Deep.RegionLaw
namespace Go.Proofs.YtlnmmklpccppmaaGreatDoor
open Go.RowKit
/-- A result that lies in a box that is known whole. -/
theorem results_c1 {fn : Func} {p : Tmp} {ty t : TypeId} (h : fn.results = #[.cell p ty]) (tmps : Array Value) (w : World) (g : Nat) (cs : List Value)
    (hp : tmps.getD p undef = .pointer (some ⟨g, 0, none⟩)) (hg : Whole w g t cs)
    {fs : _} (hu : Tryz.prog.underlying ty = some (.struct fs)) (hi : (Tryz.prog.info? ty).map (·.size) = some cs.length) :
    (results fn tmps).run Tryz.prog w = .ok (.agg cs.toArray) w := results_cell_row h tmps w g t cs.toArray (0, 0) (.struct fs) hp hg hu rfl (by simpa using hi)
theorem results_c2 {fn : Func} {p u : Tmp} {ty t : TypeId} (h : fn.results = #[.cell p ty, .tmp u]) (tmps : Array Value) (w : World) (g : Nat) (cs : List Value)
    (hp : tmps.getD p undef = .pointer (some ⟨g, 0, none⟩)) (hg : Whole w g t cs)
    {fs : _} (hu : Tryz.prog.underlying ty = some (.struct fs)) (hi : (Tryz.prog.info? ty).map (·.size) = some cs.length) :
    (results fn tmps).run Tryz.prog w = .ok (.tuple #[.agg cs.toArray, tmps.getD u undef]) w := by
  rw [results_cell_tmp h, hp]
  simp [asAddr, run_loadVar_row w g t ty cs.toArray (0, 0) (.struct fs) hg hu rfl (by simpa using hi)]
theorem results_c3 {fn : Func} {p q : Tmp} {ty t t2 : TypeId} (h : fn.results = #[.cell p ty, .cell q 30]) (tmps : Array Value) (w : World) (g g2 : Nat) (cs : List Value) (v : Value)
    (hp : tmps.getD p undef = .pointer (some ⟨g, 0, none⟩)) (hq : tmps.getD q undef = .pointer (some ⟨g2, 0, none⟩)) (hg : Whole w g t cs) (hg2 : Whole w g2 t2 [v])
    {fs : _} (hu : Tryz.prog.underlying ty = some (.struct fs)) (hi : (Tryz.prog.info? ty).map (·.size) = some cs.length) :
    (results fn tmps).run Tryz.prog w = .ok (.tuple #[.agg cs.toArray, v]) w := by
  have hp' : tmps[p]?.getD undef = .pointer (some ⟨g, 0, none⟩) := by simpa using hp
  have hq' : tmps[q]?.getD undef = .pointer (some ⟨g2, 0, none⟩) := by simpa using hq
  have c0 : w.cell? ⟨g2, 0, none⟩ = some v := hg2.cell 0
  have i1 := Tryz.isAgg30
  simp only [results, h]
  simp [hp', hq', asAddr, run_loadVar_row w g t ty cs.toArray (0, 0) (.struct fs) hg hu rfl (by simpa using hi)]
  simp only [loadVar]
  go_simp
/-- The panic that giving up is. -/
def gone : List PanicEntry := [{ v := .iface 30 (.int .i64 60), recovered := false }]
/-- The reader as a value. -/
def rdv (g : Nat) : Value := .agg #[.pointer (some ⟨g, 0, none⟩)]
set_option maxHeartbeats 400000 in
theorem giveUp_any (w : World) : Calls Tryz.prog 82 #[] w fun e w' => e = .panicked gone ∧ w = w' := by
  go_enter Tryz.func82, Tryz.ntmps82
  go_wp2
  exact ⟨rfl, rfl, rfl⟩
set_option maxHeartbeats 400000 in
theorem mustInt_yes (v : Int) (w : World) : Calls Tryz.prog 126 #[.int .i64 v, .int .i64 0] w fun e w' => e = .returned (.int .i64 v) ∧ w = w' := by
  go_enter Tryz.func126, Tryz.ntmps126
  go_wp2
  go_ret
  exact ⟨rfl, rfl⟩
set_option maxHeartbeats 400000 in
theorem mustInt_no (v er : Int) (w : World) (he : (er != 0) = true) : Calls Tryz.prog 126 #[.int .i64 v, .int .i64 er] w fun e w' => e = .panicked gone ∧ w = w' := by
  go_enter Tryz.func126, Tryz.ntmps126
  go_wp2_with fail
  refine (giveUp_any _).mono ?_
  rintro e w' ⟨rfl, rfl⟩
  go_wp2
  exact ⟨rfl, rfl, rfl⟩
/-- What a reading does: what comes next is read, or it gives up. -/
def Reads {α : Type} (w : World) (g : Nat) (o : Option (α × List UInt8)) (K : α → Value → World → Prop) (e : Ending) (w' : World) : Prop :=
  w.grownBy w' (some g) ∧ match o with
    | some q => ∃ v, e = .returned v ∧ K q.1 v w' ∧ Rdr w' g q.2
    | none => e = .panicked gone
theorem Reads.some_ {α : Type} {w w' : World} {g : Nat} {p : Option (α × List UInt8)} {K : α → Value → World → Prop} {a : α} {r : List UInt8} {v : Value} (hp : p = some (a, r)) (hg : w.grownBy w' (some g)) (hK : K a v w') (hr : Rdr w' g r) : Reads w g p K (.returned v) w' := by
  subst hp
  exact ⟨hg, v, rfl, hK, hr⟩
theorem Reads.none_ {α : Type} {w w' : World} {g : Nat} {p : Option (α × List UInt8)} {K : α → Value → World → Prop} (hp : p = none) (hg : w.grownBy w' (some g)) : Reads w g p K (.panicked gone) w' := by
  subst hp
  exact ⟨hg, rfl⟩
theorem Rdr.keep {w w' : World} {g : Nat} {l : List UInt8} (h : Rdr w g l) (hb : Below w.heap.size w w') (hg : g < w.heap.size) : Rdr w' g l := by
  obtain ⟨A, m, c, hblk, hrd, hnc, hcm⟩ := h
  exact ⟨A, m, c, (hb.block g hg).trans hblk, hrd.below hb, hnc, hcm⟩
theorem Rdr.lt {w : World} {g : Nat} {l : List UInt8} (h : Rdr w g l) : g < w.heap.size := by
  obtain ⟨A, m, c, hblk, -⟩ := h
  rw [Array.getElem?_eq_some_iff] at hblk
  exact hblk.1
theorem Rdr.alloc {w : World} {g : Nat} {l : List UInt8} (h : Rdr w g l) (o : Obj) : Rdr (w.alloc o) g l := h.keep ((Below.refl _ _).alloc (Nat.le_refl _) o) h.lt
theorem grown_of_alloc {w w' : World} {o : Obj} {r : Option Nat} (h : (w.alloc o).grownBy w' r) : w.grownBy w' r := grown_trans (grown_below ((Below.refl _ _).alloc (Nat.le_refl _) o) r) h
/-- No cell of the block is a byte. -/
def NoByte (w : World) (b : Nat) : Prop := ∀ (j : Nat) (x : Int), w.cell? ⟨b, j, none⟩ ≠ some (.int .u8 x)
theorem Rd.apart {w w' : World} {A : Option Addr} {n : Nat} {l : List UInt8} {b : Nat} (h : Rd w A n l) (hb : NoByte w b) (hg : w.grownBy w' (some b)) : Rd w' A n l :=
  ⟨h.len, fun hn => by
    obtain ⟨b', off, e, hlt, hc⟩ := h.at_ hn
    refine ⟨b', off, e, Nat.lt_of_lt_of_le hlt hg.size, fun j x hx => ?_⟩
    have h1 := hc j x hx
    have hne : b' ≠ b := fun e => by subst e; exact hb _ _ h1
    have h2 : w'.heap[b']? = w.heap[b']? := hg.block b' hlt (by simpa using hne)
    rw [World.cell?_of_block (w := w) h2]
    exact h1⟩
/-- A store into a block that was not there. -/
theorem grown_new {w wr : World} {r : Option Nat} (h : w.grownBy wr r) {b : Nat} (hb : w.heap.size ≤ b) (j : Nat) (u : Value) : w.grownBy (wr.setCell ⟨b, j, none⟩ u) r :=
  ⟨h.os, h.tape, h.output, by simpa [World.setCell] using h.size, fun k hk hr => (heap_setCell_other wr ⟨b, j, none⟩ k u (by simp only; omega)).trans (h.block k hk hr)⟩
theorem Rdr.apart {w w' : World} {g b : Nat} {l : List UInt8} (h : Rdr w g l) (hb : NoByte w b) (hne : g ≠ b) (hg : w.grownBy w' (some b)) : Rdr w' g l := by
  have hlt := h.lt
  obtain ⟨A, m, c, hblk, hrd, hnc, hcm⟩ := h
  exact ⟨A, m, c, (hg.block g hlt (by simpa using hne)).trans hblk, hrd.apart hb hg, hnc, hcm⟩
theorem Whole.noByte {w : World} {b : Nat} {t : TypeId} {cs : List Value} (h : Whole w b t cs) (hc : ∀ u ∈ cs, ∀ x, u ≠ .int .u8 x) : NoByte w b := fun j x e => by
  rw [h.cell] at e
  exact hc _ (List.mem_of_getElem? e) x rfl
set_option maxHeartbeats 400000 in
theorem rdNumber_any (g : Nat) (l : List UInt8) (w : World) (hr : Rdr w g l) :
    Calls Tryz.prog 84 #[rdv g] w (Reads w g (pnum l) fun n v _ => v = .int .i64 n) := by
  have Hc := Lib.hid (number_any g l (w.alloc (.cells #[.pointer (some ⟨g, 0, none⟩)] 83)) (hr.alloc _))
  unfold rdv
  cases hp : pnum l with
  | some q =>
    obtain ⟨n, r⟩ := q
    obtain ⟨h1, h2, h3, h4, _⟩ := pnum_some hp
    have Hp := Lib.hid h4
    rw [h1, h2, h3] at Hc
    clear h1 h2 h3 h4 hp
    go_enter Tryz.func84, Tryz.ntmps84
    go_wp2_with fail
    refine Calls.mono Hc.out ?_
    rintro e w' ⟨rfl, hr', hg⟩
    go_wp2_with fail
    refine (mustInt_yes _ _).mono ?_
    rintro e w2 ⟨rfl, rfl⟩
    go_wp2
    go_ret
    rw [← Hp.out] at hr'
    exact ⟨grown_of_alloc hg, _, rfl, rfl, hr'⟩
  | none =>
    obtain ⟨h1, h2, h3⟩ := pnum_none hp
    rw [h1, h2] at Hc
    have h4 : ((rnum l).2.2 != 0) = true := by simp [h3]
    generalize (rnum l).2.2 = er at *
    clear h1 h2 h3 hp
    go_enter Tryz.func84, Tryz.ntmps84
    go_wp2_with fail
    refine Calls.mono Hc.out ?_
    rintro e w' ⟨rfl, hr', hg⟩
    go_wp2_with fail
    refine (mustInt_no _ _ _ h4).mono ?_
    rintro e w2 ⟨rfl, rfl⟩
    go_wp2
    exact ⟨rfl, grown_of_alloc hg, rfl⟩
set_option maxHeartbeats 400000 in
theorem rdInt_any (g : Nat) (l : List UInt8) (w : World) (hr : Rdr w g l) :
    Calls Tryz.prog 97 #[rdv g] w (Reads w g (pint l) fun n v _ => v = .int .i64 n) := by
  have Hc := Lib.hid (int_any g l (w.alloc (.cells #[.pointer (some ⟨g, 0, none⟩)] 83)) (hr.alloc _))
  unfold rdv
  cases hp : pint l with
  | some q =>
    obtain ⟨n, r⟩ := q
    obtain ⟨h1, h2, h3, h4, _⟩ := pint_some hp
    have Hp := Lib.hid h4
    rw [h1, h2, h3] at Hc
    clear h1 h2 h3 h4 hp
    go_enter Tryz.func97, Tryz.ntmps97
    go_wp2_with fail
    refine Calls.mono Hc.out ?_
    rintro e w' ⟨rfl, hr', hg⟩
    go_wp2_with fail
    refine (mustInt_yes _ _).mono ?_
    rintro e w2 ⟨rfl, rfl⟩
    go_wp2
    go_ret
    rw [← Hp.out] at hr'
    exact ⟨grown_of_alloc hg, _, rfl, rfl, hr'⟩
  | none =>
    obtain ⟨h1, h2, h3⟩ := pint_none hp
    rw [h1, h2] at Hc
    have h4 : ((rint l).2.2 != 0) = true := by simp [h3]
    generalize (rint l).2.2 = er at *
    clear h1 h2 h3 hp
    go_enter Tryz.func97, Tryz.ntmps97
    go_wp2_with fail
    refine Calls.mono Hc.out ?_
    rintro e w' ⟨rfl, hr', hg⟩
    go_wp2_with fail
    refine (mustInt_no _ _ _ h4).mono ?_
    rintro e w2 ⟨rfl, rfl⟩
    go_wp2
    exact ⟨rfl, grown_of_alloc hg, rfl⟩
end Go.Proofs.YtlnmmklpccppmaaGreatDoor
namespace Go.Proofs.YtlnmmklpccppmaaGreatDoor
open Go.RowKit
/-- At the append in a region that draws: its run is known. -/
theorem step_app {P : Program} {ops : Array Oper} {o : Oper} {a : Act} {w w' : World} {K : Act → World → Prop} {Q : Exit → Act → World → Prop} {E : Prop} {v y v' : Value} {t u ty : TypeId}
    (hrun : (Builtin.append_ #[t, u] ty #[v, y]).run P w = .ok v' w') (hgd : o.guard = none) (s x : Operand)
    (ho : o.op = .call { callee := .builtin .append, args := #[s, x], argTypes := #[t, u] }) (hty : o.type = ty) (hs : a.eval s = v) (hx : a.eval x = y)
    (hK : K (a.put o.dst v') w') : if Region.wanted o (yielded ops a.tmps) = true then Oper.wp P o a w K Q else E := by
  have hw : Region.wanted o (yielded ops a.tmps) = true := by simp [Region.wanted, hgd]
  rw [if_pos hw]
  subst hty
  unfold Oper.wp execOp
  simp only [ho, resolve, invoke, builtin, Sem.run_bind, Sem.run_pure, Result.andThen_ok, List.map_toArray, List.map_cons, List.map_nil, hs, hx, hrun]
  exact hK
theorem append_two {P : Program} (w : World) (t u ty U : TypeId) (ht : P.underlying t = some (.slice U)) (hu : P.underlying u = some (.slice U)) (A : Option Addr) (n c : Nat) (y : Value) :
    (Builtin.append_ #[t, u] ty #[.slice A n c, y]).run P w = (Builtin.append_ #[u, u] ty #[.slice A n c, y]).run P w := by
  simp [Builtin.append_, run_underlying ht, run_underlying hu]
theorem Own.ownV {U : TypeId} {w : World} {base : Nat} {v : Value} {l : List UInt8} (h : Own U w base v l) : OwnV U w base v (bvs l) := by
  unfold OwnV
  rw [bvs_length]
  exact h
/-- Bytes that are laid: the box b holds the slice v, which is the call's own. -/
structure Laid (w : World) (b base : Nat) (v : Value) (bs : List UInt8) : Prop where
  box : Whole w b 71 [v]
  own : Own 5 w base v bs
theorem Laid.ne {w : World} {b base : Nat} {v : Value} {bs : List UInt8} (h : Laid w b base v bs) : v.ownBlock ≠ some b := h.own.ownV.apart h.box (by decide)
theorem Laid.below {w w' : World} {b base : Nat} {v : Value} {bs : List UInt8} (h : Laid w b base v bs) (hb : Below w.heap.size w w') : Laid w' b base v bs := ⟨h.box.below hb, h.own.below hb⟩
/-- All but the box and the slice's own block stays. -/
structure Left (w wr : World) (b : Nat) (v : Value) : Prop where
  os : wr.os = w.os
  tape : wr.tape = w.tape
  output : wr.output = w.output
  size : w.heap.size ≤ wr.heap.size
  block : ∀ k, k < w.heap.size → k ≠ b → v.ownBlock ≠ some k → wr.heap[k]? = w.heap[k]?
/-- More is laid. -/
structure Lays (w : World) (b base : Nat) (v : Value) (bs : List UInt8) (wr : World) (v' : Value) : Prop where
  laid : Laid wr b base v' bs
  left : Left w wr b v
  own : ∀ k, v'.ownBlock = some k → v.ownBlock = some k ∨ w.heap.size ≤ k
theorem Lays.refl {w : World} {b base : Nat} {v : Value} {bs : List UInt8} (h : Laid w b base v bs) : Lays w b base v bs w v := ⟨h, ⟨rfl, rfl, rfl, Nat.le_refl _, fun _ _ _ _ => rfl⟩, fun _ h => .inl h⟩
theorem Lays.trans {w w1 w2 : World} {b base : Nat} {v v1 v2 : Value} {bs cs : List UInt8} (h : Lays w b base v bs w1 v1) (k : Lays w1 b base v1 cs w2 v2) : Lays w b base v cs w2 v2 :=
  ⟨k.laid, ⟨k.left.os.trans h.left.os, k.left.tape.trans h.left.tape, k.left.output.trans h.left.output, Nat.le_trans h.left.size k.left.size, fun i hi hb hv => by
    rw [k.left.block i (Nat.lt_of_lt_of_le hi h.left.size) hb (fun e => (h.own i e).elim hv (fun q => by omega)), h.left.block i hi hb hv]⟩,
   fun i hi => (k.own i hi).elim (h.own i) (fun q => .inr (Nat.le_trans h.left.size q))⟩
theorem Lays.begin {w w1 : World} {b base : Nat} {v : Value} {bs : List UInt8} (h : Laid w b base v bs) (hb : Below w.heap.size w w1) : Lays w b base v bs w1 v :=
  ⟨h.below hb, ⟨hb.os, hb.tape, hb.output, hb.size, fun k hk _ _ => hb.block k hk⟩, fun _ h => .inl h⟩
theorem Lays.below {w w1 : World} {b base : Nat} {v v1 : Value} {bs bs0 : List UInt8} (h : Lays w b base v bs w1 v1) (h0 : Laid w b base v bs0) (hb : base ≤ b) (hs : base ≤ w.heap.size) : Below base w w1 :=
  ⟨h.left.os, h.left.tape, h.left.output, h.left.size, fun i hi => h.left.block i (by omega) (by omega) fun e => by have := (h0.own.lt i e).1; omega⟩
theorem RdV.left {w wr : World} {b : Nat} {v : Value} {A : Option Addr} {n : Nat} {xs : List Value} (h : RdV w A n xs) (hl : Left w wr b v) (hA : ∀ a, A = some a → a.block ≠ b ∧ v.ownBlock ≠ some a.block) : RdV wr A n xs :=
  ⟨h.len, fun hn => by
    obtain ⟨g, off, e, hlt, hc⟩ := h.at_ hn
    obtain ⟨h1, h2⟩ := hA _ e
    exact ⟨g, off, e, Nat.lt_of_lt_of_le hlt hl.size, fun j x hx => by
      rw [World.cell?_of_block (w := w) (hl.block g hlt h1 h2)]
      exact hc j x hx⟩⟩
/-- Where the rows that are laid lie: neither in the box nor in what is laid. -/
def Off (A : Option Addr) (b : Nat) (v : Value) (m : Nat) : Prop := ∀ a, A = some a → a.block ≠ b ∧ v.ownBlock ≠ some a.block ∧ a.block < m
theorem Off.lays {A : Option Addr} {w wr : World} {b base : Nat} {v v' : Value} {bs : List UInt8} {m : Nat} (h : Off A b v m) (hm : m ≤ w.heap.size) (k : Lays w b base v bs wr v') : Off A b v' m := fun a e =>
  ⟨(h a e).1, fun q => (k.own _ q).elim (h a e).2.1 (fun q => by have := (h a e).2.2; omega), (h a e).2.2⟩
theorem Off.new {w : World} {b base : Nat} {v : Value} {bs : List UInt8} {t : Nat} {k m : Nat} (h : Laid w b base v bs) (hk : w.heap.size ≤ k) (hm : k < m) : Off (some ⟨k, t, none⟩) b v m := fun a e => by
  injection e with e
  subst e
  have := h.box.lt
  exact ⟨by simp only; omega, fun q => by have := (h.own.lt _ q).2; simp only at this; omega, hm⟩
/-- One step: bytes of a call's own are appended, and the box is stored. -/
theorem laid_step {w w1 w2 : World} {b base : Nat} {v v2 : Value} {bs cs : List UInt8} (h : Laid w b base v bs) (hb : Below w.heap.size w w1) (hown : Own 5 w2 base v2 (bs ++ cs)) (hg : w1.grownBy w2 v.ownBlock) (hor : v2.ownBlock = v.ownBlock ∨ v2.ownBlock = some w1.heap.size) :
    Lays w b base v (bs ++ cs) (w2.setCell ⟨b, 0, none⟩ v2) v2 := by
  have hne := h.ne
  have hbl := h.box.lt
  have k1 : Whole w1 b 71 [v] := h.box.below hb
  have k2 : Whole w2 b 71 [v] := k1.keep (hg.block b k1.lt (by simpa using hne.symm))
  have hs := hb.size
  have hne2 : v2.ownBlock ≠ some b := by
    rcases hor with e | e
    · rw [e]; exact hne
    · rw [e]; intro q; injection q with q; omega
  refine ⟨⟨k2.set 0 v2, hown.keep fun k hk => heap_setCell_other w2 ⟨b, 0, none⟩ k v2 (fun e => hne2 (by rw [hk, e]))⟩, ⟨hg.os.trans hb.os, hg.tape.trans hb.tape, hg.output.trans hb.output, by simp only [World.setCell, Array.size_modify]; exact Nat.le_trans hs hg.size, fun k hk h1 h2 => ?_⟩, fun k hk => ?_⟩
  · rw [heap_setCell_other w2 ⟨b, 0, none⟩ k v2 (by simpa using h1), hg.block k (by omega) (by simpa using fun e => h2 e.symm), hb.block k hk]
  · rcases hor with e | e
    · exact .inl (e ▸ hk)
    · rw [e] at hk
      injection hk with hk
      exact .inr (by omega)
/-- An append onto what is laid, of bytes that a call made, and the store of what comes of it. -/
theorem laid_app (ty : TypeId) {wr w1 : World} {b base : Nat} {A2 A1 : Option Addr} {m2 c2 m c1 : Nat} {cs news : List UInt8} (L : Laid wr b base (.slice A2 m2 c2) cs) (hb : Below wr.heap.size wr w1) (hrd : Rd w1 A1 m news) (hm : cs.length + m ≤ 140737488355328) (hbase : base ≤ wr.heap.size) :
    ∃ A3 n3 c3 w2, (Builtin.append_ #[71, 29] ty #[.slice A2 m2 c2, .slice A1 m c1]).run Tryz.prog w1 = .ok (.slice A3 n3 c3) w2 ∧ w2.cell? ⟨b, 0, none⟩ = some (.slice A2 m2 c2) ∧ w2.frozen? ⟨b, 0, none⟩ = false ∧ Lays wr b base (.slice A2 m2 c2) (cs ++ news) (w2.setCell ⟨b, 0, none⟩ (.slice A3 n3 c3)) (.slice A3 n3 c3) := by
  have L2 := L.below hb
  obtain ⟨v2, w2, hap, hown2, hg2, hor⟩ := run_app (P := Tryz.prog) base 29 ty 5 Tryz.underlying29 Tryz.infoU8 (.slice A2 m2 c2) _ L2.own A1 m c1 news hrd hm (Nat.le_trans hbase hb.size)
  rw [← append_two _ 71 _ _ 5 Tryz.underlying71 Tryz.underlying29] at hap
  have k2 : Whole w2 b 71 [.slice A2 m2 c2] := L2.box.keep (hg2.block b L2.box.lt (by simpa using L2.ne.symm))
  obtain ⟨A3, c3, rfl, _, _, _⟩ := hown2.shape
  exact ⟨A3, _, c3, w2, hap, k2.cell 0, k2.free 0, laid_step L hb hown2 hg2 hor⟩
/-- So far: the first k are laid. -/
def NumRel (enc : Int → List UInt8) (w : World) (b base n : Nat) (v : Value) (bs : List UInt8) (ns : List Int) (i : Value) (wr : World) : Prop :=
  ∃ (k : Nat) (v' : Value), k ≤ n ∧ i = .int .i64 (k : Int) ∧ Lays w b base v (bs ++ (ns.take k).flatMap enc) wr v'
/-- What comes of laying. -/
def LaidPost (w : World) (b base : Nat) (v : Value) (bs : List UInt8) (e : Ending) (wr : World) : Prop := ∃ v', e = .returned (.tuple #[]) ∧ Lays w b base v bs wr v'
theorem take_flat {α β : Type} {l : List α} {k : Nat} {x : α} (f : α → List β) (h : l[k]? = some x) : (l.take (k + 1)).flatMap f = (l.take k).flatMap f ++ f x := by
  rw [List.take_add_one, h, List.flatMap_append]
  simp
def intvs (l : List Int) : List Value := l.map fun x => .int .i64 x
theorem intvs_get {l : List Int} {k : Nat} {u : Value} (h : (intvs l)[k]? = some u) : ∃ x, l[k]? = some x ∧ u = .int .i64 x := by
  unfold intvs at h
  rw [List.getElem?_map] at h
  cases e : l[k]? with
  | none => rw [e] at h; cases h
  | some x =>
    rw [e] at h
    injection h with h
    exact ⟨x, rfl, h.symm⟩
theorem intvs_length (l : List Int) : (intvs l).length = l.length := by simp [intvs]
theorem flat_len {α : Type} {enc : α → List UInt8} {m : Nat} (h : ∀ v, (enc v).length = m) : ∀ l : List α, (l.flatMap enc).length = m * l.length
  | [] => rfl
  | a :: t => by rw [List.flatMap_cons, List.length_append, h, flat_len h t, List.length_cons, Nat.mul_add, Nat.mul_one, Nat.add_comm]
set_option maxHeartbeats 2000000 in
theorem numbers_any (A : Option Addr) (n c : Nat) (ns : List Int) (b base : Nat) (v : Value) (bs : List UInt8) (w : World) (h : RdV w A n (intvs ns)) (hA : Off A b v w.heap.size) (hN : ∀ x ∈ ns, IsNum x) (hL : Laid w b base v bs) (hbase : base ≤ w.heap.size) (hn : n ≤ 10000) (hbs : bs.length ≤ 1000000) :
    Calls Tryz.prog 68 #[.pointer (some ⟨b, 0, none⟩), .slice A n c] w (LaidPost w b base v (bs ++ ns.flatMap encN)) := by
  have hlen := h.len
  have HR := Lib.hid h
  have HL := Lib.hid hL
  clear h hL
  go_enter Tryz.func68, Tryz.ntmps68
  go_wp2
  go_loopw [10] (NumRel encN w b base n v bs ns) (fun i _ => n - (intOf i).toNat)
  case atStart => exact ⟨0, v, Nat.zero_le _, rfl, by simpa using Lays.refl HL.out⟩
  case round =>
    obtain ⟨k, v', hk, rfl, hlay⟩ := hrel
    have Hlay := Lib.hid hlay
    clear hlay
    by_cases hlt : k < n
    · have hki : (k : Int) < (n : Int) := by omega
      have hrd := HR.out.left Hlay.out.left (fun a e => ⟨(hA a e).1, (hA a e).2.1⟩)
      obtain ⟨b', off, x0, rfl, hbl, hx, hc0⟩ := hrd.cell hlt
      obtain ⟨x, hxs, rfl⟩ := intvs_get hx
      have hxn := hN x (List.mem_of_getElem? hxs)
      have Hput := Lib.hid (putNumber_yes none 0 0 [] x wr Rd.nil (by omega) hxn.1 hxn.2)
      have hl1 : (bs ++ (ns.take k).flatMap encN).length ≤ 2000000 := by rw [List.length_append, flat_len encN_length, List.length_take]; omega
      have Htk := Lib.hid (take_flat encN hxs)
      obtain ⟨A2, c2, rfl, hc2, hm2, hrd2⟩ := Hlay.out.laid.own.shape
      have b0 := Hlay.out.laid.box.cell 0
      generalize (bs ++ (ns.take k).flatMap encN).length = m2 at *
      clear hrd hx hxs
      go_wp2_with fail
      refine Calls.mono Hput.out ?_
      rintro e w1 ⟨v1, rfl, hown1, hb1⟩
      obtain ⟨A1, c1, rfl, hc1, hm1, hrd1⟩ := hown1.shapeN (n := 4) (by simp [be_length])
      have b1 := (Hlay.out.laid.box.below hb1).cell 0
      obtain ⟨A3, n3, c3, w2, hap, b2, z2, hl2⟩ := laid_app 71 (c1 := c1) Hlay.out.laid hb1 hrd1 (by rw [← hrd2.len] at hl1; omega) (Nat.le_trans hbase Hlay.out.left.size)
      have Hl2 := Lib.hid hl2
      clear hl2 hrd1 hrd2 hown1 hb1 hc0 b0
      go_wp2_with (at_builtin; refine wpList_append_run hap rfl _ _ rfl rfl rfl rfl ?_)
      go_roundw
      case rel => exact ⟨k + 1, _, by omega, by go_num, Hlay.out.trans (by have := Hl2.out; rw [List.nil_append, List.append_assoc] at this; rw [Htk.out]; exact this)⟩
      case measure => simp [intOf]; omega
    · obtain rfl : k = n := by omega
      have Hl2 := Lib.hid (show Lays w b base v (bs ++ ns.flatMap encN) wr v' from by
        have := Hlay.out
        rwa [List.take_of_length_le (by rw [← hlen, intvs_length]; exact Nat.le_refl _)] at this)
      clear Hlay hlen
      go_wp2
      first | go_end0 | refine bodyPost_ret (results_none rfl _ _ _) rfl ?_
      exact ⟨v', rfl, Hl2.out⟩
set_option maxRecDepth 100000 in
set_option maxHeartbeats 2000000 in
theorem ints_any (A : Option Addr) (n c : Nat) (ns : List Int) (b base : Nat) (v : Value) (bs : List UInt8) (w : World) (h : RdV w A n (intvs ns)) (hA : Off A b v w.heap.size) (hL : Laid w b base v bs) (hbase : base ≤ w.heap.size) (hn : n ≤ 10000) (hbs : bs.length ≤ 1000000) :
    Calls Tryz.prog 69 #[.pointer (some ⟨b, 0, none⟩), .slice A n c] w (LaidPost w b base v (bs ++ ns.flatMap encI)) := by
  have hlen := h.len
  have HR := Lib.hid h
  have HL := Lib.hid hL
  clear h hL
  go_enter Tryz.func69, Tryz.ntmps69
  go_wp2
  go_loopw [8] (NumRel encI w b base n v bs ns) (fun i _ => n - (intOf i).toNat)
  case atStart => exact ⟨0, v, Nat.zero_le _, rfl, by simpa using Lays.refl HL.out⟩
  case round =>
    obtain ⟨k, v', hk, rfl, hlay⟩ := hrel
    have Hlay := Lib.hid hlay
    clear hlay
    by_cases hlt : k < n
    · have hki : (k : Int) < (n : Int) := by omega
      have hrd := HR.out.left Hlay.out.left (fun a e => ⟨(hA a e).1, (hA a e).2.1⟩)
      obtain ⟨b', off, x0, rfl, hbl, hx, hc0⟩ := hrd.cell hlt
      obtain ⟨x, hxs, rfl⟩ := intvs_get hx
      have Hput := Lib.hid (putInt_any none 0 0 [] x wr.drew Rd.nil (by omega))
      have hl1 : (bs ++ (ns.take k).flatMap encI).length ≤ 2000000 := by rw [List.length_append, flat_len encI_length, List.length_take]; omega
      have Htk := Lib.hid (take_flat encI hxs)
      obtain ⟨A2, c2, rfl, hc2, hm2, hrd2⟩ := Hlay.out.laid.own.shape
      have b0 := Hlay.out.laid.box.cell 0
      generalize (bs ++ (ns.take k).flatMap encI).length = m2 at *
      clear hrd hx hxs
      go_wp2_with fail
      go_region_law (first | (refine step_app hap rfl (.tmp 15) (.tmp 17) rfl rfl rfl rfl ?_) | (rw [if_pos (by simp [Region.wanted])]; unfold Oper.wp; go_simp; refine Calls.mono Hput.out ?_; rintro e w1 ⟨v1, rfl, hown1, hb0⟩; have hb1 : Below wr.heap.size wr w1 := (Below.refl wr.heap.size wr).drew.trans hb0; obtain ⟨A1, c1, rfl, hc1, hm1, hrd1⟩ := hown1.shapeN (n := 8) (by simp [be_length]); have b1 := (Hlay.out.laid.box.below hb1).cell 0; obtain ⟨A3, n3, c3, w2, hap, b2, z2, hl2⟩ := laid_app 71 (c1 := c1) Hlay.out.laid hb1 hrd1 (by rw [← hrd2.len] at hl1; omega) (Nat.le_trans hbase Hlay.out.left.size); have Hl2 := Lib.hid hl2; clear hl2 hrd1 hrd2 hown1 hb0 hb1 hc0 b0; dsimp only))
      all_goals go_wp2
      all_goals
        go_roundw
        case rel => exact ⟨k + 1, _, by omega, by go_num, Hlay.out.trans (by have := Hl2.out; rw [List.nil_append, List.append_assoc] at this; rw [Htk.out]; exact this)⟩
        case measure => simp [intOf]; omega
    · obtain rfl : k = n := by omega
      have Hl2 := Lib.hid (show Lays w b base v (bs ++ ns.flatMap encI) wr v' from by
        have := Hlay.out
        rwa [List.take_of_length_le (by rw [← hlen, intvs_length]; exact Nat.le_refl _)] at this)
      clear Hlay hlen
      go_wp2
      first | go_end0 | refine bodyPost_ret (results_none rfl _ _ _) rfl ?_
      exact ⟨v', rfl, Hl2.out⟩
set_option maxHeartbeats 1000000 in
/-- A text is laid: how many bytes, and these. -/
theorem laidText_any (str : ByteArray) (b base : Nat) (v : Value) (bs : List UInt8) (w : World) (hs : str.size ≤ 65536) (hL : Laid w b base v bs) (hbase : base ≤ w.heap.size) (hbs : bs.length ≤ 1000000) :
    Calls Tryz.prog 89 #[.pointer (some ⟨b, 0, none⟩), .string str] w (LaidPost w b base v (bs ++ (be 4 str.size ++ str.data.toList))) := by
  have Hput := Lib.hid (putText_yes none 0 0 [] str w Rd.nil (by omega) hs)
  have HL := Lib.hid hL
  obtain ⟨A2, c2, rfl, hc2, hm2, hrd2⟩ := hL.own.shape
  generalize bs.length = m2 at *
  clear hL hrd2
  go_enter Tryz.func89, Tryz.ntmps89
  go_wp2_with fail
  refine Calls.mono Hput.out ?_
  rintro e w1 ⟨v1, rfl, hown1, hb1⟩
  rw [List.nil_append] at hown1
  have hl4 : (be 4 str.size ++ str.data.toList).length = 4 + str.size := by rw [List.length_append, be_length]; rfl
  obtain ⟨A1, c1, rfl, hc1, hm1, hrd1⟩ := hown1.shapeN hl4
  have b1 := (HL.out.box.below hb1).cell 0
  obtain ⟨A3, n3, c3, w2, hap, b2, z2, hl2⟩ := laid_app 71 (c1 := c1) HL.out hb1 hrd1 (by have := HL.out.own.shape; obtain ⟨_, _, e, _⟩ := this; injection e with _ e _; omega) hbase
  have Hl2 := Lib.hid hl2
  clear hl2 hrd1 hown1 hb1 hl4
  go_wp2_with (at_builtin; refine wpList_append_run hap rfl _ _ rfl rfl rfl rfl ?_)
  first | go_end0 | refine bodyPost_ret (results_none rfl _ _ _) rfl ?_
  exact ⟨_, rfl, Hl2.out⟩
end Go.Proofs.YtlnmmklpccppmaaGreatDoor
namespace Go.Proofs.YtlnmmklpccppmaaGreatDoor
open Go.RowKit
set_option maxHeartbeats 1000000 in
theorem laidOp_any (ns : List Int) (h7 : ns.length = 7) (b base : Nat) (v : Value) (bs : List UInt8) (w : World) (hL : Laid w b base v bs) (hbase : base ≤ w.heap.size) (hbs : bs.length ≤ 1000000) :
    Calls Tryz.prog 55 #[.pointer (some ⟨b, 0, none⟩), .agg (intvs ns).toArray] w (LaidPost w b base v (bs ++ ns.flatMap encI)) := by
  have hb1 : Below w.heap.size w ((w.alloc (.cells (intvs ns).toArray 50)).alloc (.cells (intvs ns).toArray 3)) := ((Below.refl _ _).alloc (Nat.le_refl _) _).alloc (by simp) _
  have hrow : RdV ((w.alloc (.cells (intvs ns).toArray 50)).alloc (.cells (intvs ns).toArray 3)) (some ⟨w.heap.size + 1, 0, none⟩) 7 (intvs ns) := by
    have := (Whole.new (w.alloc (.cells (intvs ns).toArray 50)) (intvs ns).toArray 3).rd
    rw [show (w.alloc (.cells (intvs ns).toArray 50)).heap.size = w.heap.size + 1 by simp, List.toList_toArray, intvs_length, h7] at this
    exact this
  have L1 := Lays.begin hL hb1
  have Hc := Lib.hid (ints_any (some ⟨w.heap.size + 1, 0, none⟩) 7 7 ns b base v bs _ hrow (Off.new (t := 0) hL (by omega) (by simp)) L1.laid (by have := hb1.size; omega) (by omega) hbs)
  obtain ⟨X, hX⟩ : ∃ X, X = ns.flatMap encI := ⟨_, rfl⟩
  rw [← hX] at Hc ⊢
  have HL := Lib.hid L1
  clear hX hb1 hrow L1 hL
  match ns, h7 with
  | [k, h, i, n, kk, v', t], _ =>
    unfold intvs at *
    simp only [List.map_cons, List.map_nil] at *
    go_enter Tryz.func55, Tryz.ntmps55
    go_wp2_with fail
    refine Calls.mono Hc.out ?_
    rintro e w1 ⟨v2, rfl, hl2⟩
    go_wp2
    first | go_end0 | refine bodyPost_ret (results_none rfl _ _ _) rfl ?_
    exact ⟨_, rfl, HL.out.trans hl2⟩
set_option maxHeartbeats 1000000 in
theorem putOp_any (ns : List Int) (h7 : ns.length = 7) (w : World) : Calls Tryz.prog 28 #[.agg (intvs ns).toArray] w (Gives w (ns.flatMap encI)) := by
  have hW := Whole.new (w.alloc (.cells (intvs ns).toArray 50)) #[.slice none 0 0] 71
  have hb1 : Below w.heap.size w ((w.alloc (.cells (intvs ns).toArray 50)).alloc (.cells #[.slice none 0 0] 71)) := ((Below.refl _ _).alloc (Nat.le_refl _) _).alloc (by simp) _
  rw [show (w.alloc (.cells (intvs ns).toArray 50)).heap.size = w.heap.size + 1 by simp] at hW
  have L1 : Laid ((w.alloc (.cells (intvs ns).toArray 50)).alloc (.cells #[.slice none 0 0] 71)) (w.heap.size + 1) w.heap.size (.slice none 0 0) [] := ⟨hW, Own.nil⟩
  have Hc := Lib.hid (laidOp_any ns h7 (w.heap.size + 1) w.heap.size (.slice none 0 0) [] _ L1 hb1.size (by simp))
  rw [List.nil_append] at Hc
  obtain ⟨X, hX⟩ : ∃ X, X = ns.flatMap encI := ⟨_, rfl⟩
  rw [← hX] at Hc ⊢
  have HL := Lib.hid L1
  have HB := Lib.hid hb1
  clear hX hb1 L1 hW
  match ns, h7 with
  | [k, h, i, n, kk, v', t], _ =>
    unfold intvs at *
    simp only [List.map_cons, List.map_nil] at *
    go_enter Tryz.func28, Tryz.ntmps28
    go_wp2_with fail
    refine Calls.mono Hc.out ?_
    rintro e w1 ⟨v2, rfl, hl2⟩
    have hbw := HB.out.trans (hl2.below HL.out (by omega) HB.out.size)
    obtain ⟨A2, c2, rfl, _, _, _⟩ := hl2.laid.own.shape
    have b0 := hl2.laid.box.cell 0
    have Hl := Lib.hid hl2
    clear hl2
    go_wp2
    go_ret
    exact ⟨_, rfl, Hl.out.laid.own, hbw⟩
end Go.Proofs.YtlnmmklpccppmaaGreatDoor
namespace Go.Proofs.YtlnmmklpccppmaaGreatDoor
open Go.RowKit
theorem Whole.setAt {w : World} {g : Nat} {t : TypeId} {xs : List Value} {m : Nat} {z u : Value} {k : Nat} (h : Whole w g t (xs ++ reps (m + 1) z)) (hk : xs.length = k) : Whole (w.setCell ⟨g, k, none⟩ u) g t ((xs ++ [u]) ++ reps m z) := by
  have := h.set k u
  rw [List.set_append_right k u (by omega), hk, Nat.sub_self] at this
  unfold reps at this ⊢
  rw [List.replicate_succ, List.set_cons_zero] at this
  rwa [List.append_assoc]
theorem ints_noByte (vs : List Int) (m : Nat) : ∀ u ∈ intvs vs ++ reps m (.int .i64 0), ∀ x, u ≠ .int .u8 x := by
  intro u hu x e
  subst e
  rcases List.mem_append.1 hu with h | h
  · unfold intvs at h
    obtain ⟨y, _, h⟩ := List.mem_map.1 h
    cases h
  · have := List.eq_of_mem_replicate h
    cases this
/-- The six fields' places. -/
def fieldPs (o : Nat) : List Value := [.pointer (some ⟨o, 1, none⟩), .pointer (some ⟨o, 2, none⟩), .pointer (some ⟨o, 3, none⟩), .pointer (some ⟨o, 4, none⟩), .pointer (some ⟨o, 5, none⟩), .pointer (some ⟨o, 6, none⟩)]
theorem fieldPs_get (o k : Nat) (h : k < 6) : (fieldPs o)[k]? = some (.pointer (some ⟨o, k + 1, none⟩)) := by
  rcases (show k = 0 ∨ k = 1 ∨ k = 2 ∨ k = 3 ∨ k = 4 ∨ k = 5 by omega) with rfl | rfl | rfl | rfl | rfl | rfl <;> rfl
theorem grown_sets7 {wr : World} {b : Nat} (v0 v1 v2 v3 v4 v5 v6 : Value) : wr.grownBy (((((((wr.setCell ⟨b, 0, none⟩ v0).setCell ⟨b, 1, none⟩ v1).setCell ⟨b, 2, none⟩ v2).setCell ⟨b, 3, none⟩ v3).setCell ⟨b, 4, none⟩ v4).setCell ⟨b, 5, none⟩ v5).setCell ⟨b, 6, none⟩ v6) (some b) :=
  grown_trans (grown_trans (grown_trans (grown_trans (grown_trans (grown_trans (grown_set wr b 0 v0) (grown_set _ b 1 v1)) (grown_set _ b 2 v2)) (grown_set _ b 3 v3)) (grown_set _ b 4 v4)) (grown_set _ b 5 v5)) (grown_set _ b 6 v6)
theorem hrdr7 {wr : World} {g b : Nat} {l : List UInt8} (h : Rdr wr g l) (hb : NoByte wr b) (hne : g ≠ b) (v0 v1 v2 v3 v4 v5 v6 : Value) : Rdr (((((((wr.setCell ⟨b, 0, none⟩ v0).setCell ⟨b, 1, none⟩ v1).setCell ⟨b, 2, none⟩ v2).setCell ⟨b, 3, none⟩ v3).setCell ⟨b, 4, none⟩ v4).setCell ⟨b, 5, none⟩ v5).setCell ⟨b, 6, none⟩ v6) g l := h.apart hb hne (grown_sets7 v0 v1 v2 v3 v4 v5 v6)
/-- So far: the first, and k more of them are read. -/
def OpRel (w : World) (g o q : Nat) (l : List UInt8) (i : Value) (wr : World) : Prop :=
  ∃ (k : Nat) (vs : List Int) (r : List UInt8), k ≤ 6 ∧ i = .int .i64 (k : Int) ∧ prep pint (k + 1) l = some (vs, r) ∧ Rdr wr g r ∧ Whole wr o 50 (intvs vs ++ reps (6 - k) (.int .i64 0)) ∧ Whole wr q 139 (fieldPs o) ∧ Whole wr w.heap.size 83 [.pointer (some ⟨g, 0, none⟩)] ∧ Whole wr (w.heap.size + 1) 50 [.int .i64 0, .int .i64 0, .int .i64 0, .int .i64 0, .int .i64 0, .int .i64 0, .int .i64 0] ∧ w.grownBy wr (some g)
set_option maxHeartbeats 2000000 in
theorem rdOp_any (g : Nat) (l : List UInt8) (w : World) (hr : Rdr w g l) :
    Calls Tryz.prog 53 #[rdv g] w (Reads w g (prep pint 7 l) fun vs v _ => v = .agg (intvs vs).toArray) := by
  have HR := Lib.hid hr
  go_enter Tryz.func53, Tryz.ntmps53
  unfold rdv
  go_wp2_with fail
  have KB := (Whole.new w #[.pointer (some ⟨g, 0, none⟩)] 83).alloc (.cells #[.int .i64 0, .int .i64 0, .int .i64 0, .int .i64 0, .int .i64 0, .int .i64 0, .int .i64 0] 50)
  have KO := Whole.new (w.alloc (.cells #[.pointer (some ⟨g, 0, none⟩)] 83)) #[.int .i64 0, .int .i64 0, .int .i64 0, .int .i64 0, .int .i64 0, .int .i64 0, .int .i64 0] 50
  rw [show (w.alloc (.cells #[.pointer (some ⟨g, 0, none⟩)] 83)).heap.size = w.heap.size + 1 by simp] at KO
  have R0 := (hr.alloc (.cells #[.pointer (some ⟨g, 0, none⟩)] 83)).alloc (.cells #[.int .i64 0, .int .i64 0, .int .i64 0, .int .i64 0, .int .i64 0, .int .i64 0, .int .i64 0] 50)
  have G0 := grown_below (((Below.refl w.heap.size w).alloc (Nat.le_refl _) (.cells #[.pointer (some ⟨g, 0, none⟩)] 83)).alloc (by simp) (.cells #[.int .i64 0, .int .i64 0, .int .i64 0, .int .i64 0, .int .i64 0, .int .i64 0, .int .i64 0] 50)) (some g)
  generalize (w.alloc (.cells #[.pointer (some ⟨g, 0, none⟩)] 83)).alloc (.cells #[.int .i64 0, .int .i64 0, .int .i64 0, .int .i64 0, .int .i64 0, .int .i64 0, .int .i64 0] 50) = W at KB KO R0 G0 ⊢
  refine (rdInt_any g l W R0).mono ?_
  have hlt := hr.lt
  rintro e w1 ⟨hg1, hm⟩
  have KB1 := Lib.hid (KB.grown hg1 (by omega))
  have KO1 := Lib.hid (KO.grown hg1 (by omega))
  have G1 := Lib.hid (grown_trans G0 hg1)
  clear KB KO R0 G0 hg1
  cases hq : pint l with
  | none =>
    rw [hq] at hm
    subst hm
    have Hst := Lib.hid (prep_stop (p := pint) (m := 0) (n := 7) (l := l) rfl hq (by omega))
    clear hq
    go_wp2
    exact ⟨rfl, G1.out, by rw [Hst.out]⟩
  | some q =>
    obtain ⟨x, r⟩ := q
    rw [hq] at hm
    obtain ⟨v, rfl, rfl, hr1⟩ := hm
    have Hp := Lib.hid (prep_step (p := pint) (n := 0) (l := l) rfl hq)
    have Hr1 := Lib.hid hr1
    have b0 := KB1.out.cell 0
    have hs1 := KO1.out.lt
    clear hq hr1
    dsimp only
    go_wp2_with fail
    have KOo := (Whole.new w1 #[.int .i64 x, .int .i64 0, .int .i64 0, .int .i64 0, .int .i64 0, .int .i64 0, .int .i64 0] 50).alloc (.cells (fieldPs w1.heap.size).toArray 139)
    have KQ := Whole.new (w1.alloc (.cells #[.int .i64 x, .int .i64 0, .int .i64 0, .int .i64 0, .int .i64 0, .int .i64 0, .int .i64 0] 50)) (fieldPs w1.heap.size).toArray 139
    rw [show (w1.alloc (.cells #[.int .i64 x, .int .i64 0, .int .i64 0, .int .i64 0, .int .i64 0, .int .i64 0, .int .i64 0] 50)).heap.size = w1.heap.size + 1 by simp] at KQ
    have B2 := ((Below.refl w1.heap.size w1).alloc (Nat.le_refl _) (.cells #[.int .i64 x, .int .i64 0, .int .i64 0, .int .i64 0, .int .i64 0, .int .i64 0, .int .i64 0] 50)).alloc (by simp) (.cells (fieldPs w1.heap.size).toArray 139)
    have KB2 := Lib.hid (KB1.out.below B2)
    have KR2 := Lib.hid (KO1.out.below B2)
    have HR2 := Lib.hid (Hr1.out.keep B2 Hr1.out.lt)
    have G2 := Lib.hid (grown_trans G1.out (grown_below B2 (some g)))
    have S2 := Lib.hid (show ((w1.alloc (.cells #[.int .i64 x, .int .i64 0, .int .i64 0, .int .i64 0, .int .i64 0, .int .i64 0, .int .i64 0] 50)).alloc (.cells (fieldPs w1.heap.size).toArray 139)).heap.size = w1.heap.size + 2 by simp)
    have HO2 := Lib.hid KOo
    have HQ2 := Lib.hid KQ
    clear KOo KQ B2 b0
    unfold fieldPs at HO2 HQ2 KB2 KR2 HR2 G2 S2
    generalize (w1.alloc (.cells #[.int .i64 x, .int .i64 0, .int .i64 0, .int .i64 0, .int .i64 0, .int .i64 0, .int .i64 0] 50)).alloc (.cells [Value.pointer (some ⟨w1.heap.size, 1, none⟩), .pointer (some ⟨w1.heap.size, 2, none⟩), .pointer (some ⟨w1.heap.size, 3, none⟩), .pointer (some ⟨w1.heap.size, 4, none⟩), .pointer (some ⟨w1.heap.size, 5, none⟩), .pointer (some ⟨w1.heap.size, 6, none⟩)].toArray 139) = W2 at *
    go_loopw [17] (OpRel w g w1.heap.size (w1.heap.size + 1) l) (fun i _ => 6 - (intOf i).toNat)
    case atStart => exact ⟨0, [x], r, by omega, rfl, Hp.out, HR2.out, HO2.out, HQ2.out, KB2.out, KR2.out, G2.out⟩
    case round =>
      obtain ⟨k, vs, r, hk, rfl, hpr, hrd, hw, hq, hb, hres, hgr⟩ := hrel
      have Hres := Lib.hid hres
      have hlen := prep_len hpr
      have Hrd := Lib.hid hrd
      have Hw := Lib.hid hw
      have Hq := Lib.hid hq
      have Hb := Lib.hid hb
      have Hg := Lib.hid hgr
      have Hpr := Lib.hid hpr
      clear hrd hw hgr hpr hres
      by_cases hlt : k < 6
      · have hki : (k : Int) < 6 := by omega
        have b0 := hb.cell 0
        have q0 : wr.cell? ⟨w1.heap.size + 1, k, none⟩ = some (.pointer (some ⟨w1.heap.size, k + 1, none⟩)) := by rw [hq.cell, fieldPs_get _ _ hlt]
        clear hq hb
        go_wp2_with fail
        refine (rdInt_any g r wr Hrd.out).mono ?_
        rintro e w3 ⟨hg3, hm⟩
        have G3 := Lib.hid (grown_trans Hg.out hg3)
        cases hq : pint r with
        | none =>
          rw [hq] at hm
          subst hm
          have Hst := Lib.hid (prep_stop (n := 7) Hpr.out hq (by omega))
          clear hq hg3
          go_wp2
          exact ⟨rfl, G3.out, by rw [Hst.out]⟩
        | some q =>
          obtain ⟨y, r'⟩ := q
          rw [hq] at hm
          obtain ⟨v, rfl, rfl, hr3⟩ := hm
          have Hp3 := Lib.hid (prep_step Hpr.out hq)
          have hgl := hr.lt
          have W3 := Hw.out.grown hg3 (by omega)
          have Q3 := Lib.hid (Hq.out.grown hg3 (by omega))
          have B3 := Lib.hid (Hb.out.grown hg3 (by omega))
          have R3 := Lib.hid (Hres.out.grown hg3 (by omega))
          have hk1 : 6 - k = (6 - (k + 1)) + 1 := by omega
          rw [hk1] at W3
          have c0 : w3.cell? ⟨w1.heap.size, k + 1, none⟩ = some (.int .i64 0) := by
            have := W3.cell (k + 1)
            rw [List.getElem?_append_right (by rw [intvs_length]; omega), intvs_length, hlen, Nat.sub_self] at this
            exact this
          have z0 := W3.free (k + 1)
          have G4 := Lib.hid (grown_new G3.out (b := w1.heap.size) (by omega) (k + 1) (.int .i64 y))
          have g4 := grown_set w3 w1.heap.size (k + 1) (.int .i64 y)
          have Rd4 := Lib.hid (hr3.apart (W3.noByte (ints_noByte _ _)) (by omega) g4)
          have W4 := Lib.hid (W3.setAt (u := .int .i64 y) (k := k + 1) (by rw [intvs_length]; exact hlen))
          have Q4 := Lib.hid (Q3.out.grown g4 (by omega))
          have B4 := Lib.hid (B3.out.grown g4 (by omega))
          have R4 := Lib.hid (R3.out.grown g4 (by omega))
          clear hq hk1 W3 hr3 hg3 hlen g4 b0 q0 hgl
          dsimp only
          go_wp2
          go_roundw
          case rel =>
            refine ⟨k + 1, vs ++ [y], r', by omega, by go_num, Hp3.out, Rd4.out, ?_, Q4.out, B4.out, R4.out, G4.out⟩
            have := W4.out
            unfold intvs at this ⊢
            rw [List.map_append]
            exact this
          case measure => simp [intOf]; omega
      · obtain rfl : k = 6 := by omega
        match vs, hlen with
        | [v0, v1, v2, v3, v4, v5, v6], _ =>
          have o0 : wr.cell? ⟨w1.heap.size, 0, none⟩ = some (.int .i64 v0) := Hw.out.cell 0
          have o1 : wr.cell? ⟨w1.heap.size, 1, none⟩ = some (.int .i64 v1) := Hw.out.cell 1
          have o2 : wr.cell? ⟨w1.heap.size, 2, none⟩ = some (.int .i64 v2) := Hw.out.cell 2
          have o3 : wr.cell? ⟨w1.heap.size, 3, none⟩ = some (.int .i64 v3) := Hw.out.cell 3
          have o4 : wr.cell? ⟨w1.heap.size, 4, none⟩ = some (.int .i64 v4) := Hw.out.cell 4
          have o5 : wr.cell? ⟨w1.heap.size, 5, none⟩ = some (.int .i64 v5) := Hw.out.cell 5
          have o6 : wr.cell? ⟨w1.heap.size, 6, none⟩ = some (.int .i64 v6) := Hw.out.cell 6
          have p0 : wr.cell? ⟨w.heap.size + 1, 0, none⟩ = some (.int .i64 0) := Hres.out.cell 0
          have z0 := Hres.out.free 0
          have p1 : wr.cell? ⟨w.heap.size + 1, 1, none⟩ = some (.int .i64 0) := Hres.out.cell 1
          have z1 := Hres.out.free 1
          have p2 : wr.cell? ⟨w.heap.size + 1, 2, none⟩ = some (.int .i64 0) := Hres.out.cell 2
          have z2 := Hres.out.free 2
          have p3 : wr.cell? ⟨w.heap.size + 1, 3, none⟩ = some (.int .i64 0) := Hres.out.cell 3
          have z3 := Hres.out.free 3
          have p4 : wr.cell? ⟨w.heap.size + 1, 4, none⟩ = some (.int .i64 0) := Hres.out.cell 4
          have z4 := Hres.out.free 4
          have p5 : wr.cell? ⟨w.heap.size + 1, 5, none⟩ = some (.int .i64 0) := Hres.out.cell 5
          have z5 := Hres.out.free 5
          have p6 : wr.cell? ⟨w.heap.size + 1, 6, none⟩ = some (.int .i64 0) := Hres.out.cell 6
          have z6 := Hres.out.free 6
          have hne : ¬ w.heap.size + 1 = w1.heap.size := by omega
          have K7 := Lib.hid (((((((Hres.out.set 0 (.int .i64 v0)).set 1 (.int .i64 v1)).set 2 (.int .i64 v2)).set 3 (.int .i64 v3)).set 4 (.int .i64 v4)).set 5 (.int .i64 v5)).set 6 (.int .i64 v6))
          clear hb hq
          go_wp2
          have Hf := Lib.hid (show w.grownBy (((((((wr.setCell ⟨w.heap.size + 1, 0, none⟩ (.int .i64 v0)).setCell ⟨w.heap.size + 1, 1, none⟩ (.int .i64 v1)).setCell ⟨w.heap.size + 1, 2, none⟩ (.int .i64 v2)).setCell ⟨w.heap.size + 1, 3, none⟩ (.int .i64 v3)).setCell ⟨w.heap.size + 1, 4, none⟩ (.int .i64 v4)).setCell ⟨w.heap.size + 1, 5, none⟩ (.int .i64 v5)).setCell ⟨w.heap.size + 1, 6, none⟩ (.int .i64 v6)) (some g) from
            grown_new (grown_new (grown_new (grown_new (grown_new (grown_new (grown_new Hg.out (Nat.le_succ _) 0 _) (Nat.le_succ _) 1 _) (Nat.le_succ _) 2 _) (Nat.le_succ _) 3 _) (Nat.le_succ _) 4 _) (Nat.le_succ _) 5 _) (Nat.le_succ _) 6 _)
          have N0 := Hres.out.noByte (ints_noByte [] 7)
          have hgl := hr.lt
          have hr7 := hrdr7 Hrd.out N0 (by omega : g ≠ w.heap.size + 1) (.int .i64 v0) (.int .i64 v1) (.int .i64 v2) (.int .i64 v3) (.int .i64 v4) (.int .i64 v5) (.int .i64 v6)
          refine bodyPost_ret (results_c1 rfl _ _ _ _ rfl K7.out Tryz.underlying50 (by kernel_rfl)) rfl ?_
          exact ⟨Hf.out, by rw [Hpr.out]; exact ⟨_, rfl, rfl, hr7⟩⟩
end Go.Proofs.YtlnmmklpccppmaaGreatDoor
namespace Go.Proofs.YtlnmmklpccppmaaGreatDoor
open Go.RowKit
set_option maxHeartbeats 1000000 in
theorem catchO_panics (p q : Nat) (w : World) (t : TypeId) (pv : Value) (older : List PanicEntry) (a0 a1 a2 a3 a4 a5 a6 x : Value) (hp : Whole w p 50 [a0, a1, a2, a3, a4, a5, a6]) (hq : Whole w q 30 [x]) :
    CallsD Tryz.prog 96 #[.pointer (some ⟨p, 0, none⟩), .pointer (some ⟨q, 0, none⟩)] (.panicking ({ v := .iface t pv, recovered := false } :: older)) w fun e u' w' =>
      e = .returned (.tuple #[]) ∧ u' = .panicking ({ v := .iface t pv, recovered := true } :: older) ∧ Whole w' p 50 [.int .i64 0, .int .i64 0, .int .i64 0, .int .i64 0, .int .i64 0, .int .i64 0, .int .i64 0] ∧ Whole w' q 30 [.int .i64 60] ∧ ∀ B, B ≤ p → B ≤ q → Below B w w' := by
  refine callsD_of_wpS Tryz.func96 rfl fun c₀ cs hu => ?_
  apply wpS_seq
  apply wpS_region
  simp [wpOpsS, go_sem, recoverD, hu, Tryz.ntmps96, Exit.thenS]
  refine wpS_cond (t := true) (by simp [Act.eval, Array.replicate]) ?_
  simp only [if_true]
  refine wpS_of_wp ?_
  have hne : ¬ p = q := hp.ne hq (by decide)
  have hlp := hp.lt
  have hlq := hq.lt
  have b0 := hp.cell 0
  have b1 := hp.cell 1
  have b2 := hp.cell 2
  have b3 := hp.cell 3
  have b4 := hp.cell 4
  have b5 := hp.cell 5
  have b6 := hp.cell 6
  have z0 := hp.free 0
  have z1 := hp.free 1
  have z2 := hp.free 2
  have z3 := hp.free 3
  have z4 := hp.free 4
  have z5 := hp.free 5
  have z6 := hp.free 6
  have c0 := hq.cell 0
  have y0 := hq.free 0
  have K1 := hp.alloc (.cells #[.int .i64 0, .int .i64 0, .int .i64 0, .int .i64 0, .int .i64 0, .int .i64 0, .int .i64 0] 50)
  have Q1 := hq.alloc (.cells #[.int .i64 0, .int .i64 0, .int .i64 0, .int .i64 0, .int .i64 0, .int .i64 0, .int .i64 0] 50)
  show Code.wp _ _ _ { tmps := #[.pointer (some ⟨p, 0, none⟩), .pointer (some ⟨q, 0, none⟩), undef, .iface t pv, .bool true, undef], defers := [] } w
  go_wp2
  have KP := (((((((hp.set 0 (.int .i64 0)).set 1 (.int .i64 0)).set 2 (.int .i64 0)).set 3 (.int .i64 0)).set 4 (.int .i64 0)).set 5 (.int .i64 0)).set 6 (.int .i64 0))
  have GP := grown_sets7 (wr := w) (b := p) (.int .i64 0) (.int .i64 0) (.int .i64 0) (.int .i64 0) (.int .i64 0) (.int .i64 0) (.int .i64 0)
  have KQ := (hq.grown GP (fun e => hne e.symm)).set 0 (.int .i64 60)
  refine ⟨rfl, _, rfl, .tuple #[], by simp [results, Tryz.results96], rfl, rfl, ?_, ?_, ?_⟩
  · exact ((KP.grown (grown_set _ q 0 _) hne).alloc _)
  · exact KQ.alloc _
  · intro B h1 h2
    have hs := GP.size
    have c1 := below_grown (Below.refl B w) GP (by omega) h1
    have c2 := below_grown c1 (grown_set _ q 0 (.int .i64 60)) (by omega) h2
    exact c2.alloc (by simp only [World.setCell, Array.size_modify]; omega) _
set_option maxHeartbeats 1000000 in
theorem catchO_idle (p q : Nat) (w : World) :
    CallsD Tryz.prog 96 #[.pointer (some ⟨p, 0, none⟩), .pointer (some ⟨q, 0, none⟩)] .returning w fun e u' w' => e = .returned (.tuple #[]) ∧ u' = .returning ∧ w' = w := by
  refine callsD_of_wpS Tryz.func96 rfl fun c₀ cs hu => ?_
  apply wpS_seq
  apply wpS_region
  simp [wpOpsS, go_sem, recoverD, hu, Tryz.ntmps96, Exit.thenS]
  refine wpS_cond (t := false) (by simp [Act.eval, Array.replicate]) ?_
  simp only [Bool.false_eq_true, if_false]
  refine wpS_of_wp (wp_skip ?_)
  cases c₀
  simp_all [bodyPostS, results, Tryz.results96]
def zeroO : Value := .agg #[.int .i64 0, .int .i64 0, .int .i64 0, .int .i64 0, .int .i64 0, .int .i64 0, .int .i64 0]
/-- The whole of the bytes is read, or nothing. -/
def WholeO (w : World) (b : List UInt8) (e : Ending) (w' : World) : Prop :=
  Below w.heap.size w w' ∧ match prep pint 7 b with
    | some (vs, []) => e = .returned (.tuple #[.agg (intvs vs).toArray, .int .i64 0])
    | _ => e = .returned (.tuple #[zeroO, .int .i64 60])
set_option maxHeartbeats 2000000 in
theorem wholeO_any (A : Option Addr) (n c : Nat) (b : List UInt8) (w : World) (hb : Rd w A n b) (hn : n ≤ 70368744177664) :
    Calls Tryz.prog 52 #[.slice A n c, .func (.func 53) #[] #[]] w (WholeO w b) := by
  have hmf : ∀ (fn : Fn) (first cap : Array Value) (w : World), (Instr.makeFunc fn first cap).run Tryz.prog w = .ok (.func fn first cap) w := fun _ _ _ _ => rfl
  go_enter_defers Tryz.func52, Tryz.ntmps52
  go_wp2_with fail
  have KP := (Whole.new w #[.int .i64 0, .int .i64 0, .int .i64 0, .int .i64 0, .int .i64 0, .int .i64 0, .int .i64 0] 50).alloc (.cells #[.int .i64 0] 30)
  have KQ := Whole.new (w.alloc (.cells #[.int .i64 0, .int .i64 0, .int .i64 0, .int .i64 0, .int .i64 0, .int .i64 0, .int .i64 0] 50)) #[.int .i64 0] 30
  rw [show (w.alloc (.cells #[.int .i64 0, .int .i64 0, .int .i64 0, .int .i64 0, .int .i64 0, .int .i64 0, .int .i64 0] 50)).heap.size = w.heap.size + 1 by simp] at KQ
  have B0 := ((Below.refl w.heap.size w).alloc (Nat.le_refl _) (.cells #[.int .i64 0, .int .i64 0, .int .i64 0, .int .i64 0, .int .i64 0, .int .i64 0, .int .i64 0] 50)).alloc (by simp) (.cells #[.int .i64 0] 30)
  generalize (w.alloc (.cells #[.int .i64 0, .int .i64 0, .int .i64 0, .int .i64 0, .int .i64 0, .int .i64 0, .int .i64 0] 50)).alloc (.cells #[.int .i64 0] 30) = W at KP KQ B0 ⊢
  refine (new_any A n c b W (hb.below B0) hn).mono ?_
  rintro e w1 ⟨g, rfl, hg, hgl, hr1, hb1⟩
  have KP1 := KP.below hb1
  have KQ1 := KQ.below hb1
  have B1 := B0.trans (hb1.mono B0.size)
  have hsz := KQ.lt
  clear KP KQ B0 hb1
  have Hmf := Lib.hid hmf
  dsimp only
  go_wp2_with fail
  have KT := Whole.new w1 #[.pointer (some ⟨g, 0, none⟩)] 83
  have KP2 := KP1.alloc (.cells #[.pointer (some ⟨g, 0, none⟩)] 83)
  have KQ2 := KQ1.alloc (.cells #[.pointer (some ⟨g, 0, none⟩)] 83)
  have R2 := hr1.alloc (.cells #[.pointer (some ⟨g, 0, none⟩)] 83)
  have B2 := B1.alloc B1.size (.cells #[.pointer (some ⟨g, 0, none⟩)] 83)
  generalize (w1.alloc (.cells #[.pointer (some ⟨g, 0, none⟩)] 83)) = W1 at KT KP2 KQ2 R2 B2 ⊢
  refine (rdOp_any g b W1 R2).mono ?_
  rintro e w2 ⟨hg2, hm⟩
  have B3 : Below w.heap.size w w2 := below_grown B2 hg2 B2.size (by omega)
  have KP3 := KP2.grown hg2 (by omega)
  have KQ3 := KQ2.grown hg2 (by omega)
  have KT3 := KT.grown hg2 (by omega)
  have hT := KP1.lt
  have hT2 := KQ1.lt
  clear KT KP2 KQ2 R2 B2 hg2 KP1 KQ1 B1 hr1
  have HB := Lib.hid B3
  have HP := Lib.hid KP3
  have HQ := Lib.hid KQ3
  cases hq : prep pint 7 b with
  | none =>
    rw [hq] at hm
    subst hm
    have Hq := Lib.hid hq
    clear hq B3 KP3 KQ3 KT3
    go_wp2
    refine leaves_cons (f := 96) (args := #[.pointer (some ⟨w.heap.size, 0, none⟩), .pointer (some ⟨w.heap.size + 1, 0, none⟩)]) (by simp) (by simp [go_sem]) ?_
    refine (catchO_panics _ _ _ _ _ [] _ _ _ _ _ _ _ _ HP.out HQ.out).mono ?_
    rintro e u' w'' ⟨rfl, rfl, hp, hq, hB⟩
    refine ⟨_, results_c3 rfl _ _ _ _ _ _ rfl rfl hp hq Tryz.underlying50 (by kernel_rfl), ?_⟩
    exact ⟨HB.out.trans (hB _ (Nat.le_refl _) (Nat.le_succ _)), by rw [Hq.out]; rfl⟩
  | some q =>
    obtain ⟨vs, r⟩ := q
    rw [hq] at hm
    obtain ⟨v, rfl, rfl, hr2⟩ := hm
    have hlen := prep_len hq
    have Hq := Lib.hid hq
    clear hq
    match vs, hlen with
    | [v0, v1, v2, v3, v4, v5, v6], _ =>
      have K4 := (((((((KP3.set 0 (.int .i64 v0)).set 1 (.int .i64 v1)).set 2 (.int .i64 v2)).set 3 (.int .i64 v3)).set 4 (.int .i64 v4)).set 5 (.int .i64 v5)).set 6 (.int .i64 v6))
      have G4 := grown_sets7 (wr := w2) (b := w.heap.size) (.int .i64 v0) (.int .i64 v1) (.int .i64 v2) (.int .i64 v3) (.int .i64 v4) (.int .i64 v5) (.int .i64 v6)
      have Q4 := KQ3.grown G4 (by omega)
      have T4 := KT3.grown G4 (by omega)
      have R4 := hrdr7 hr2 (KP3.noByte (ints_noByte [] 7)) (by omega : g ≠ w.heap.size) (.int .i64 v0) (.int .i64 v1) (.int .i64 v2) (.int .i64 v3) (.int .i64 v4) (.int .i64 v5) (.int .i64 v6)
      have B4 := below_grown B3 G4 B3.size (Nat.le_refl _)
      have H4 := Lib.hid (And.intro K4 (And.intro Q4 (And.intro T4 (And.intro R4 B4))))
      have p0 := KP3.cell 0
      have p1 := KP3.cell 1
      have p2 := KP3.cell 2
      have p3 := KP3.cell 3
      have p4 := KP3.cell 4
      have p5 := KP3.cell 5
      have p6 := KP3.cell 6
      have z0 := KP3.free 0
      have z1 := KP3.free 1
      have z2 := KP3.free 2
      have z3 := KP3.free 3
      have z4 := KP3.free 4
      have z5 := KP3.free 5
      have z6 := KP3.free 6
      have t0 : w2.cell? ⟨w1.heap.size, 0, none⟩ = some (.pointer (some ⟨g, 0, none⟩)) := KT3.cell 0
      have hne : ¬ w.heap.size = w1.heap.size := by omega
      clear K4 G4 Q4 T4 R4 B4 KP3 KQ3 KT3 B3 hr2
      dsimp only [intvs, List.map_cons, List.map_nil]
      go_wp2_with fail
      generalize ((((((w2.setCell ⟨w.heap.size, 0, none⟩ (.int .i64 v0)).setCell ⟨w.heap.size, 1, none⟩ (.int .i64 v1)).setCell ⟨w.heap.size, 2, none⟩ (.int .i64 v2)).setCell ⟨w.heap.size, 3, none⟩ (.int .i64 v3)).setCell ⟨w.heap.size, 4, none⟩ (.int .i64 v4)).setCell ⟨w.heap.size, 5, none⟩ (.int .i64 v5)).setCell ⟨w.heap.size, 6, none⟩ (.int .i64 v6) = W4 at H4 ⊢
      obtain ⟨K4, Q4, T4, R4, B4⟩ := H4.out
      clear p0 p1 p2 p3 p4 p5 p6 z0 z1 z2 z3 z4 z5 z6 t0
      refine (left_any g r W4 R4).mono ?_
      rintro e w5 ⟨rfl, rfl⟩
      cases r with
      | cons r0 rs =>
        have hl : decide (0 < ((r0 :: rs).length : Int)) = true := by simp
        have hl2 : (0 : Int) < ((r0 :: rs).length : Int) := by simp
        generalize ((r0 :: rs).length : Int) = rl at *
        clear K4 Q4 T4 R4 B4
        go_wp2_with fail
        refine (giveUp_any _).mono ?_
        rintro e w6 ⟨rfl, rfl⟩
        go_wp2
        obtain ⟨K4, Q4, T4, R4, B4⟩ := H4.out
        refine leaves_cons (f := 96) (args := #[.pointer (some ⟨w.heap.size, 0, none⟩), .pointer (some ⟨w.heap.size + 1, 0, none⟩)]) (by simp) (by simp [go_sem]) ?_
        refine (catchO_panics _ _ _ _ _ [] _ _ _ _ _ _ _ _ K4 Q4).mono ?_
        rintro e u' w'' ⟨rfl, rfl, hp, hq, hB⟩
        refine ⟨_, results_c3 rfl _ _ _ _ _ _ rfl rfl hp hq Tryz.underlying50 (by kernel_rfl), ?_⟩
        exact ⟨B4.trans (hB _ (Nat.le_refl _) (Nat.le_succ _)), by rw [Hq.out]; rfl⟩
      | nil =>
        have k0 : W4.cell? ⟨w.heap.size, 0, none⟩ = some (.int .i64 v0) := K4.cell 0
        have k1 : W4.cell? ⟨w.heap.size, 1, none⟩ = some (.int .i64 v1) := K4.cell 1
        have k2 : W4.cell? ⟨w.heap.size, 2, none⟩ = some (.int .i64 v2) := K4.cell 2
        have k3 : W4.cell? ⟨w.heap.size, 3, none⟩ = some (.int .i64 v3) := K4.cell 3
        have k4 : W4.cell? ⟨w.heap.size, 4, none⟩ = some (.int .i64 v4) := K4.cell 4
        have k5 : W4.cell? ⟨w.heap.size, 5, none⟩ = some (.int .i64 v5) := K4.cell 5
        have k6 : W4.cell? ⟨w.heap.size, 6, none⟩ = some (.int .i64 v6) := K4.cell 6
        have z0 := K4.free 0
        have z1 := K4.free 1
        have z2 := K4.free 2
        have z3 := K4.free 3
        have z4 := K4.free 4
        have z5 := K4.free 5
        have z6 := K4.free 6
        have q0 := Q4.cell 0
        have y0 := Q4.free 0
        have K5 := (((((((K4.set 0 (.int .i64 v0)).set 1 (.int .i64 v1)).set 2 (.int .i64 v2)).set 3 (.int .i64 v3)).set 4 (.int .i64 v4)).set 5 (.int .i64 v5)).set 6 (.int .i64 v6))
        have G5 := grown_sets7 (wr := W4) (b := w.heap.size) (.int .i64 v0) (.int .i64 v1) (.int .i64 v2) (.int .i64 v3) (.int .i64 v4) (.int .i64 v5) (.int .i64 v6)
        have Q5 := (Q4.grown G5 (by omega)).set 0 (.int .i64 0)
        have K6 := K5.grown (grown_set _ (w.heap.size + 1) 0 (.int .i64 0)) (by omega)
        have B5 := below_grown (below_grown B4 G5 B4.size (Nat.le_refl _)) (grown_set _ (w.heap.size + 1) 0 (.int .i64 0)) (by have := G5.size; have := B4.size; omega) (Nat.le_succ _)
        have H5 := Lib.hid (And.intro K6 (And.intro Q5 B5))
        clear K4 Q4 T4 R4 B4 K5 G5 Q5 K6 B5
        go_wp2
        obtain ⟨K6, Q5, B5⟩ := H5.out
        refine leaves_cons (f := 96) (args := #[.pointer (some ⟨w.heap.size, 0, none⟩), .pointer (some ⟨w.heap.size + 1, 0, none⟩)]) (by simp) (by simp [go_sem]) ?_
        refine (catchO_idle _ _ _).mono ?_
        rintro e u' w'' ⟨rfl, rfl, rfl⟩
        refine ⟨_, results_c3 rfl _ _ _ _ _ _ rfl rfl K6 Q5 Tryz.underlying50 (by kernel_rfl), ?_⟩
        exact ⟨B5, by rw [Hq.out]; rfl⟩
end Go.Proofs.YtlnmmklpccppmaaGreatDoor
