/-
  A reader that gives up where what has to come next does not come: contracts of giveUp, must, number and int.
  Bytes behind which more are laid: contracts of numbers, ints and text.
  A reader reads an operation: seven ints.
-/
import Derived.Test.YtlnmmklpccppmaaGreatDoorTg34
import Derived.Recover
import Derived.WalkLawsBesides
import Derived.Laws.Rows
import Derived.Laws.ResultCell
import Derived.Deep.RegionWith
import Derived.Deep.RegionLaw
namespace Go.Proofs.YtlnmmklpccppmaaGreatDoor
open Go.RowKit
/-- A result that lies in a box that is known whole. -/
theorem results_c1 {fn : Func} {p : Tmp} {ty t : TypeId} (h : fn.results = #[.cell p ty]) (tmps : Array Value) (w : World) (g : Nat) (cs : List Value)
    (hp : tmps.getD p undef = .pointer (some ⟨g, 0, none⟩)) (hg : Whole w g t cs)
    {fs : _} (hu : Tryz.prog.underlying ty = some (.struct fs)) (hi : (Tryz.prog.info? ty).map (·.size) = some cs.length) :
    (results fn tmps).run Tryz.prog w = .ok (.agg cs.toArray) w := results_cell_row h tmps w g t cs.toArray (0, 0) (.struct fs) hp hg hu rfl (by simpa using hi)
theorem results_c2 {fn : Func} {p u : Tmp} {ty t : TypeId} (h : fn.results = #[.cell p ty, .tmp u]) (tmps : Array Value) (w : World) (g : Nat) (cs : List Value)
    (hp : tmps.getD p undef = .pointer (some ⟨g, 0, none⟩)) (hg : Whole w g t cs)
    {fs : _} (hu : Tryz.prog.underlying ty = some (.struct fs)) (hi : (Tryz.prog.info? ty).map (·.size) = some cs.length) :
    (results fn tmps).run Tryz.prog w = .ok (.tuple #[.agg cs.toArray, tmps.getD u undef]) w := by
  rw [results_cell_tmp h, hp]
  simp [asAddr, run_loadVar_row w g t ty cs.toArray (0, 0) (.struct fs) hg hu rfl (by simpa using hi)]
theorem results_c3 {fn : Func} {p q : Tmp} {ty t t2 : TypeId} (h : fn.results = #[.cell p ty, .cell q 30]) (tmps : Array Value) (w : World) (g g2 : Nat) (cs : List Value) (v : Value)
    (hp : tmps.getD p undef = .pointer (some ⟨g, 0, none⟩)) (hq : tmps.getD q undef = .pointer (some ⟨g2, 0, none⟩)) (hg : Whole w g t cs) (hg2 : Whole w g2 t2 [v])
    {fs : _} (hu : Tryz.prog.underlying ty = some (.struct fs)) (hi : (Tryz.prog.info? ty).map (·.size) = some cs.length) :
    (results fn tmps).run Tryz.prog w = .ok (.tuple #[.agg cs.toArray, v]) w := by
  have hp' : tmps[p]?.getD undef = .pointer (some ⟨g, 0, none⟩) := by simpa using hp
  have hq' : tmps[q]?.getD undef = .pointer (some ⟨g2, 0, none⟩) := by simpa using hq
  have c0 : w.cell? ⟨g2, 0, none⟩ = some v := hg2.cell 0
  have i1 := Tryz.isAgg30
  simp only [results, h]
  simp [hp', hq', asAddr, run_loadVar_row w g t ty cs.toArray (0, 0) (.struct fs) hg hu rfl (by simpa using hi)]
  simp only [loadVar]
  go_simp
/-- The panic that giving up is. -/
def gone : List PanicEntry := [{ v := .iface 30 (.int .i64 60), recovered := false }]
/-- The reader as a value. -/
def rdv (g : Nat) : Value := .agg #[.pointer (some ⟨g, 0, none⟩)]
set_option maxHeartbeats 400000 in
theorem giveUp_any (w : World) : Calls Tryz.prog 82 #[] w fun e w' => e = .panicked gone ∧ w = w' := by
  go_enter Tryz.func82, Tryz.ntmps82
  go_wp2
  exact ⟨rfl, rfl, rfl⟩
set_option maxHeartbeats 400000 in
theorem mustInt_yes (v : Int) (w : World) : Calls Tryz.prog 126 #[.int .i64 v, .int .i64 0] w fun e w' => e = .returned (.int .i64 v) ∧ w = w' := by
  go_enter Tryz.func126, Tryz.ntmps126
  go_wp2
  go_ret
  exact ⟨rfl, rfl⟩
set_option maxHeartbeats 400000 in
theorem mustInt_no (v er : Int) (w : World) (he : (er != 0) = true) : Calls Tryz.prog 126 #[.int .i64 v, .int .i64 er] w fun e w' => e = .panicked gone ∧ w = w' := by
  go_enter Tryz.func126, Tryz.ntmps126
  go_wp2_with fail
  refine (giveUp_any _).mono ?_
  rintro e w' ⟨rfl, rfl⟩
  go_wp2
  exact ⟨rfl, rfl, rfl⟩
/-- What a reading does: what comes next is read, or it gives up. -/
def Reads {α : Type} (w : World) (g : Nat) (o : Option (α × List UInt8)) (K : α → Value → World → Prop) (e : Ending) (w' : World) : Prop :=
  w.grownBy w' (some g) ∧ match o with
    | some q => ∃ v, e = .returned v ∧ K q.1 v w' ∧ Rdr w' g q.2
    | none => e = .panicked gone
theorem Reads.some_ {α : Type} {w w' : World} {g : Nat} {p : Option (α × List UInt8)} {K : α → Value → World → Prop} {a : α} {r : List UInt8} {v : Value} (hp : p = some (a, r)) (hg : w.grownBy w' (some g)) (hK : K a v w') (hr : Rdr w' g r) : Reads w g p K (.returned v) w' := by
  subst hp
  exact ⟨hg, v, rfl, hK, hr⟩
theorem Rdr.keep {w w' : World} {g : Nat} {l : List UInt8} (h : Rdr w g l) (hb : Below w.heap.size w w') (hg : g < w.heap.size) : Rdr w' g l := by
  obtain ⟨A, m, c, hblk, hrd, hnc, hcm⟩ := h
  exact ⟨A, m, c, (hb.block g hg).trans hblk, hrd.below hb, hnc, hcm⟩
theorem Rdr.lt {w : World} {g : Nat} {l : List UInt8} (h : Rdr w g l) : g < w.heap.size := by
  obtain ⟨A, m, c, hblk, -⟩ := h
  rw [Array.getElem?_eq_some_iff] at hblk
  exact hblk.1
theorem Rdr.alloc {w : World} {g : Nat} {l : List UInt8} (h : Rdr w g l) (o : Obj) : Rdr (w.alloc o) g l := h.keep ((Below.refl _ _).alloc (Nat.le_refl _) o) h.lt
theorem grown_of_alloc {w w' : World} {o : Obj} {r : Option Nat} (h : (w.alloc o).grownBy w' r) : w.grownBy w' r := grown_trans (grown_below ((Below.refl _ _).alloc (Nat.le_refl _) o) r) h
/-- No cell of the block is a byte. -/
def NoByte (w : World) (b : Nat) : Prop := ∀ (j : Nat) (x : Int), w.cell? ⟨b, j, none⟩ ≠ some (.int .u8 x)
theorem Rd.apart {w w' : World} {A : Option Addr} {n : Nat} {l : List UInt8} {b : Nat} (h : Rd w A n l) (hb : NoByte w b) (hg : w.grownBy w' (some b)) : Rd w' A n l :=
  ⟨h.len, fun hn => by
    obtain ⟨b', off, e, hlt, hc⟩ := h.at_ hn
    refine ⟨b', off, e, Nat.lt_of_lt_of_le hlt hg.size, fun j x hx => ?_⟩
    have h1 := hc j x hx
    have hne : b' ≠ b := fun e => by subst e; exact hb _ _ h1
    have h2 : w'.heap[b']? = w.heap[b']? := hg.block b' hlt (by simpa using hne)
    rw [World.cell?_of_block (w := w) h2]
    exact h1⟩
/-- A store into a block that was not there. -/
theorem grown_new {w wr : World} {r : Option Nat} (h : w.grownBy wr r) {b : Nat} (hb : w.heap.size ≤ b) (j : Nat) (u : Value) : w.grownBy (wr.setCell ⟨b, j, none⟩ u) r :=
  ⟨h.os, h.tape, h.output, by simpa [World.setCell] using h.size, fun k hk hr => (heap_setCell_other wr ⟨b, j, none⟩ k u (by simp only; omega)).trans (h.block k hk hr)⟩
theorem Rdr.apart {w w' : World} {g b : Nat} {l : List UInt8} (h : Rdr w g l) (hb : NoByte w b) (hne : g ≠ b) (hg : w.grownBy w' (some b)) : Rdr w' g l := by
  have hlt := h.lt
  obtain ⟨A, m, c, hblk, hrd, hnc, hcm⟩ := h
  exact ⟨A, m, c, (hg.block g hlt (by simpa using hne)).trans hblk, hrd.apart hb hg, hnc, hcm⟩
theorem Whole.noByte {w : World} {b : Nat} {t : TypeId} {cs : List Value} (h : Whole w b t cs) (hc : ∀ u ∈ cs, ∀ x, u ≠ .int .u8 x) : NoByte w b := fun j x e => by
  rw [h.cell] at e
  exact hc _ (List.mem_of_getElem? e) x rfl
set_option maxHeartbeats 400000 in
theorem rdNumber_any (g : Nat) (l : List UInt8) (w : World) (hr : Rdr w g l) :
    Calls Tryz.prog 84 #[rdv g] w (Reads w g (pnum l) fun n v _ => v = .int .i64 n) := by
  have Hc := Lib.hid (number_any g l (w.alloc (.cells #[.pointer (some ⟨g, 0, none⟩)] 83)) (hr.alloc _))
  unfold rdv
  cases hp : pnum l with
  | some q =>
    obtain ⟨n, r⟩ := q
    obtain ⟨h1, h2, h3, h4, _⟩ := pnum_some hp
    have Hp := Lib.hid h4
    rw [h1, h2, h3] at Hc
    clear h1 h2 h3 h4 hp
    go_enter Tryz.func84, Tryz.ntmps84
    go_wp2_with fail
    refine Calls.mono Hc.out ?_
    rintro e w' ⟨rfl, hr', hg⟩
    go_wp2_with fail
    refine (mustInt_yes _ _).mono ?_
    rintro e w2 ⟨rfl, rfl⟩
    go_wp2
    go_ret
    rw [← Hp.out] at hr'
    exact ⟨grown_of_alloc hg, _, rfl, rfl, hr'⟩
  | none =>
    obtain ⟨h1, h2, h3⟩ := pnum_none hp
    rw [h1, h2] at Hc
    have h4 : ((rnum l).2.2 != 0) = true := by simp [h3]
    generalize (rnum l).2.2 = er at *
    clear h1 h2 h3 hp
    go_enter Tryz.func84, Tryz.ntmps84
    go_wp2_with fail
    refine Calls.mono Hc.out ?_
    rintro e w' ⟨rfl, hr', hg⟩
    go_wp2_with fail
    refine (mustInt_no _ _ _ h4).mono ?_
    rintro e w2 ⟨rfl, rfl⟩
    go_wp2
    exact ⟨rfl, grown_of_alloc hg, rfl⟩
set_option maxHeartbeats 400000 in
theorem rdInt_any (g : Nat) (l : List UInt8) (w : World) (hr : Rdr w g l) :
    Calls Tryz.prog 97 #[rdv g] w (Reads w g (pint l) fun n v _ => v = .int .i64 n) := by
  have Hc := Lib.hid (int_any g l (w.alloc (.cells #[.pointer (some ⟨g, 0, none⟩)] 83)) (hr.alloc _))
  unfold rdv
  cases hp : pint l with
  | some q =>
    obtain ⟨n, r⟩ := q
    obtain ⟨h1, h2, h3, h4, _⟩ := pint_some hp
    have Hp := Lib.hid h4
    rw [h1, h2, h3] at Hc
    clear h1 h2 h3 h4 hp
    go_enter Tryz.func97, Tryz.ntmps97
    go_wp2_with fail
    refine Calls.mono Hc.out ?_
    rintro e w' ⟨rfl, hr', hg⟩
    go_wp2_with fail
    refine (mustInt_yes _ _).mono ?_
    rintro e w2 ⟨rfl, rfl⟩
    go_wp2
    go_ret
    rw [← Hp.out] at hr'
    exact ⟨grown_of_alloc hg, _, rfl, rfl, hr'⟩
  | none =>
    obtain ⟨h1, h2, h3⟩ := pint_none hp
    rw [h1, h2] at Hc
    have h4 : ((rint l).2.2 != 0) = true := by simp [h3]
    generalize (rint l).2.2 = er at *
    clear h1 h2 h3 hp
    go_enter Tryz.func97, Tryz.ntmps97
    go_wp2_with fail
    refine Calls.mono Hc.out ?_
    rintro e w' ⟨rfl, hr', hg⟩
    go_wp2_with fail
    refine (mustInt_no _ _ _ h4).mono ?_
    rintro e w2 ⟨rfl, rfl⟩
    go_wp2
    exact ⟨rfl, grown_of_alloc hg, rfl⟩
end Go.Proofs.YtlnmmklpccppmaaGreatDoor
namespace Go.Proofs.YtlnmmklpccppmaaGreatDoor
open Go.RowKit
/-- At the append in a region that draws: its run is known. -/
theorem step_app {P : Program} {ops : Array Oper} {o : Oper} {a : Act} {w w' : World} {K : Act → World → Prop} {Q : Exit → Act → World → Prop} {E : Prop} {v y v' : Value} {t u ty : TypeId}
    (hrun : (Builtin.append_ #[t, u] ty #[v, y]).run P w = .ok v' w') (hgd : o.guard = none) (s x : Operand)
    (ho : o.op = .call { callee := .builtin .append, args := #[s, x], argTypes := #[t, u] }) (hty : o.type = ty) (hs : a.eval s = v) (hx : a.eval x = y)
    (hK : K (a.put o.dst v') w') : if Region.wanted o (yielded ops a.tmps) = true then Oper.wp P o a w K Q else E := by
  have hw : Region.wanted o (yielded ops a.tmps) = true := by simp [Region.wanted, hgd]
  rw [if_pos hw]
  subst hty
  unfold Oper.wp execOp
  simp only [ho, resolve, invoke, builtin, Sem.run_bind, Sem.run_pure, Result.andThen_ok, List.map_toArray, List.map_cons, List.map_nil, hs, hx, hrun]
  exact hK
theorem append_two {P : Program} (w : World) (t u ty U : TypeId) (ht : P.underlying t = some (.slice U)) (hu : P.underlying u = some (.slice U)) (A : Option Addr) (n c : Nat) (y : Value) :
    (Builtin.append_ #[t, u] ty #[.slice A n c, y]).run P w = (Builtin.append_ #[u, u] ty #[.slice A n c, y]).run P w := by
  simp [Builtin.append_, run_underlying ht, run_underlying hu]
theorem Own.ownV {U : TypeId} {w : World} {base : Nat} {v : Value} {l : List UInt8} (h : Own U w base v l) : OwnV U w base v (bvs l) := by
  unfold OwnV
  rw [bvs_length]
  exact h
/-- Bytes that are laid: the box b holds the slice v, which is the call's own. -/
structure Laid (w : World) (b base : Nat) (v : Value) (bs : List UInt8) : Prop where
  box : Whole w b 71 [v]
  own : Own 5 w base v bs
theorem Laid.ne {w : World} {b base : Nat} {v : Value} {bs : List UInt8} (h : Laid w b base v bs) : v.ownBlock ≠ some b := h.own.ownV.apart h.box (by decide)
theorem Laid.below {w w' : World} {b base : Nat} {v : Value} {bs : List UInt8} (h : Laid w b base v bs) (hb : Below w.heap.size w w') : Laid w' b base v bs := ⟨h.box.below hb, h.own.below hb⟩
/-- All but the box and the slice's own block stays. -/
structure Left (w wr : World) (b : Nat) (v : Value) : Prop where
  os : wr.os = w.os
  tape : wr.tape = w.tape
  output : wr.output = w.output
  size : w.heap.size ≤ wr.heap.size
  block : ∀ k, k < w.heap.size → k ≠ b → v.ownBlock ≠ some k → wr.heap[k]? = w.heap[k]?
/-- More is laid. -/
structure Lays (w : World) (b base : Nat) (v : Value) (bs : List UInt8) (wr : World) (v' : Value) : Prop where
  laid : Laid wr b base v' bs
  left : Left w wr b v
  own : ∀ k, v'.ownBlock = some k → v.ownBlock = some k ∨ w.heap.size ≤ k
theorem Lays.refl {w : World} {b base : Nat} {v : Value} {bs : List UInt8} (h : Laid w b base v bs) : Lays w b base v bs w v := ⟨h, ⟨rfl, rfl, rfl, Nat.le_refl _, fun _ _ _ _ => rfl⟩, fun _ h => .inl h⟩
theorem Lays.trans {w w1 w2 : World} {b base : Nat} {v v1 v2 : Value} {bs cs : List UInt8} (h : Lays w b base v bs w1 v1) (k : Lays w1 b base v1 cs w2 v2) : Lays w b base v cs w2 v2 :=
  ⟨k.laid, ⟨k.left.os.trans h.left.os, k.left.tape.trans h.left.tape, k.left.output.trans h.left.output, Nat.le_trans h.left.size k.left.size, fun i hi hb hv => by
    rw [k.left.block i (Nat.lt_of_lt_of_le hi h.left.size) hb (fun e => (h.own i e).elim hv (fun q => by omega)), h.left.block i hi hb hv]⟩,
   fun i hi => (k.own i hi).elim (h.own i) (fun q => .inr (Nat.le_trans h.left.size q))⟩
theorem Lays.begin {w w1 : World} {b base : Nat} {v : Value} {bs : List UInt8} (h : Laid w b base v bs) (hb : Below w.heap.size w w1) : Lays w b base v bs w1 v :=
  ⟨h.below hb, ⟨hb.os, hb.tape, hb.output, hb.size, fun k hk _ _ => hb.block k hk⟩, fun _ h => .inl h⟩
theorem Lays.below {w w1 : World} {b base : Nat} {v v1 : Value} {bs bs0 : List UInt8} (h : Lays w b base v bs w1 v1) (h0 : Laid w b base v bs0) (hb : base ≤ b) (hs : base ≤ w.heap.size) : Below base w w1 :=
  ⟨h.left.os, h.left.tape, h.left.output, h.left.size, fun i hi => h.left.block i (by omega) (by omega) fun e => by have := (h0.own.lt i e).1; omega⟩
theorem RdV.left {w wr : World} {b : Nat} {v : Value} {A : Option Addr} {n : Nat} {xs : List Value} (h : RdV w A n xs) (hl : Left w wr b v) (hA : ∀ a, A = some a → a.block ≠ b ∧ v.ownBlock ≠ some a.block) : RdV wr A n xs :=
  ⟨h.len, fun hn => by
    obtain ⟨g, off, e, hlt, hc⟩ := h.at_ hn
    obtain ⟨h1, h2⟩ := hA _ e
    exact ⟨g, off, e, Nat.lt_of_lt_of_le hlt hl.size, fun j x hx => by
      rw [World.cell?_of_block (w := w) (hl.block g hlt h1 h2)]
      exact hc j x hx⟩⟩
/-- Where the rows that are laid lie: neither in the box nor in what is laid. -/
def Off (A : Option Addr) (b : Nat) (v : Value) (m : Nat) : Prop := ∀ a, A = some a → a.block ≠ b ∧ v.ownBlock ≠ some a.block ∧ a.block < m
theorem Off.lays {A : Option Addr} {w wr : World} {b base : Nat} {v v' : Value} {bs : List UInt8} {m : Nat} (h : Off A b v m) (hm : m ≤ w.heap.size) (k : Lays w b base v bs wr v') : Off A b v' m := fun a e =>
  ⟨(h a e).1, fun q => (k.own _ q).elim (h a e).2.1 (fun q => by have := (h a e).2.2; omega), (h a e).2.2⟩
theorem Off.new {w : World} {b base : Nat} {v : Value} {bs : List UInt8} {t : Nat} {k m : Nat} (h : Laid w b base v bs) (hk : w.heap.size ≤ k) (hm : k < m) : Off (some ⟨k, t, none⟩) b v m := fun a e => by
  injection e with e
  subst e
  have := h.box.lt
  exact ⟨by simp only; omega, fun q => by have := (h.own.lt _ q).2; simp only at this; omega, hm⟩
/-- One step: bytes of a call's own are appended, and the box is stored. -/
theorem laid_step {w w1 w2 : World} {b base : Nat} {v v2 : Value} {bs cs : List UInt8} (h : Laid w b base v bs) (hb : Below w.heap.size w w1) (hown : Own 5 w2 base v2 (bs ++ cs)) (hg : w1.grownBy w2 v.ownBlock) (hor : v2.ownBlock = v.ownBlock ∨ v2.ownBlock = some w1.heap.size) :
    Lays w b base v (bs ++ cs) (w2.setCell ⟨b, 0, none⟩ v2) v2 := by
  have hne := h.ne
  have hbl := h.box.lt
  have k1 : Whole w1 b 71 [v] := h.box.below hb
  have k2 : Whole w2 b 71 [v] := k1.keep (hg.block b k1.lt (by simpa using hne.symm))
  have hs := hb.size
  have hne2 : v2.ownBlock ≠ some b := by
    rcases hor with e | e
    · rw [e]; exact hne
    · rw [e]; intro q; injection q with q; omega
  refine ⟨⟨k2.set 0 v2, hown.keep fun k hk => heap_setCell_other w2 ⟨b, 0, none⟩ k v2 (fun e => hne2 (by rw [hk, e]))⟩, ⟨hg.os.trans hb.os, hg.tape.trans hb.tape, hg.output.trans hb.output, by simp only [World.setCell, Array.size_modify]; exact Nat.le_trans hs hg.size, fun k hk h1 h2 => ?_⟩, fun k hk => ?_⟩
  · rw [heap_setCell_other w2 ⟨b, 0, none⟩ k v2 (by simpa using h1), hg.block k (by omega) (by simpa using fun e => h2 e.symm), hb.block k hk]
  · rcases hor with e | e
    · exact .inl (e ▸ hk)
    · rw [e] at hk
      injection hk with hk
      exact .inr (by omega)
/-- An append onto what is laid, of bytes that a call made, and the store of what comes of it. -/
theorem laid_app (ty : TypeId) {wr w1 : World} {b base : Nat} {A2 A1 : Option Addr} {m2 c2 m c1 : Nat} {cs news : List UInt8} (L : Laid wr b base (.slice A2 m2 c2) cs) (hb : Below wr.heap.size wr w1) (hrd : Rd w1 A1 m news) (hm : cs.length + m ≤ 140737488355328) (hbase : base ≤ wr.heap.size) :
    ∃ A3 n3 c3 w2, (Builtin.append_ #[71, 29] ty #[.slice A2 m2 c2, .slice A1 m c1]).run Tryz.prog w1 = .ok (.slice A3 n3 c3) w2 ∧ w2.cell? ⟨b, 0, none⟩ = some (.slice A2 m2 c2) ∧ w2.frozen? ⟨b, 0, none⟩ = false ∧ Lays wr b base (.slice A2 m2 c2) (cs ++ news) (w2.setCell ⟨b, 0, none⟩ (.slice A3 n3 c3)) (.slice A3 n3 c3) := by
  have L2 := L.below hb
  obtain ⟨v2, w2, hap, hown2, hg2, hor⟩ := run_app (P := Tryz.prog) base 29 ty 5 Tryz.underlying29 Tryz.infoU8 (.slice A2 m2 c2) _ L2.own A1 m c1 news hrd hm (Nat.le_trans hbase hb.size)
  rw [← append_two _ 71 _ _ 5 Tryz.underlying71 Tryz.underlying29] at hap
  have k2 : Whole w2 b 71 [.slice A2 m2 c2] := L2.box.keep (hg2.block b L2.box.lt (by simpa using L2.ne.symm))
  obtain ⟨A3, c3, rfl, _, _, _⟩ := hown2.shape
  exact ⟨A3, _, c3, w2, hap, k2.cell 0, k2.free 0, laid_step L hb hown2 hg2 hor⟩
/-- So far: the first k are laid. -/
def NumRel (enc : Int → List UInt8) (w : World) (b base n : Nat) (v : Value) (bs : List UInt8) (ns : List Int) (i : Value) (wr : World) : Prop :=
  ∃ (k : Nat) (v' : Value), k ≤ n ∧ i = .int .i64 (k : Int) ∧ Lays w b base v (bs ++ (ns.take k).flatMap enc) wr v'
/-- What comes of laying. -/
def LaidPost (w : World) (b base : Nat) (v : Value) (bs : List UInt8) (e : Ending) (wr : World) : Prop := ∃ v', e = .returned (.tuple #[]) ∧ Lays w b base v bs wr v'
theorem take_flat {α β : Type} {l : List α} {k : Nat} {x : α} (f : α → List β) (h : l[k]? = some x) : (l.take (k + 1)).flatMap f = (l.take k).flatMap f ++ f x := by
  rw [List.take_add_one, h, List.flatMap_append]
  simp
def intvs (l : List Int) : List Value := l.map fun x => .int .i64 x
theorem intvs_get {l : List Int} {k : Nat} {u : Value} (h : (intvs l)[k]? = some u) : ∃ x, l[k]? = some x ∧ u = .int .i64 x := by
  unfold intvs at h
  rw [List.getElem?_map] at h
  cases e : l[k]? with
  | none => rw [e] at h; cases h
  | some x =>
    rw [e] at h
    injection h with h
    exact ⟨x, rfl, h.symm⟩
theorem intvs_length (l : List Int) : (intvs l).length = l.length := by simp [intvs]
theorem flat_len {α : Type} {enc : α → List UInt8} {m : Nat} (h : ∀ v, (enc v).length = m) : ∀ l : List α, (l.flatMap enc).length = m * l.length
  | [] => rfl
  | a :: t => by rw [List.flatMap_cons, List.length_append, h, flat_len h t, List.length_cons, Nat.mul_add, Nat.mul_one, Nat.add_comm]
set_option maxHeartbeats 2000000 in
theorem numbers_any (A : Option Addr) (n c : Nat) (ns : List Int) (b base : Nat) (v : Value) (bs : List UInt8) (w : World) (h : RdV w A n (intvs ns)) (hA : Off A b v w.heap.size) (hN : ∀ x ∈ ns, IsNum x) (hL : Laid w b base v bs) (hbase : base ≤ w.heap.size) (hn : n ≤ 10000) (hbs : bs.length ≤ 1000000) :
    Calls Tryz.prog 68 #[.pointer (some ⟨b, 0, none⟩), .slice A n c] w (LaidPost w b base v (bs ++ ns.flatMap encN)) := by
  have hlen := h.len
  have HR := Lib.hid h
  have HL := Lib.hid hL
  clear h hL
  go_enter Tryz.func68, Tryz.ntmps68
  go_wp2
  go_loopw [10] (NumRel encN w b base n v bs ns) (fun i _ => n - (intOf i).toNat)
  case atStart => exact ⟨0, v, Nat.zero_le _, rfl, by simpa using Lays.refl HL.out⟩
  case round =>
    obtain ⟨k, v', hk, rfl, hlay⟩ := hrel
    have Hlay := Lib.hid hlay
    clear hlay
    by_cases hlt : k < n
    · have hki : (k : Int) < (n : Int) := by omega
      have hrd := HR.out.left Hlay.out.left (fun a e => ⟨(hA a e).1, (hA a e).2.1⟩)
      obtain ⟨b', off, x0, rfl, hbl, hx, hc0⟩ := hrd.cell hlt
      obtain ⟨x, hxs, rfl⟩ := intvs_get hx
      have hxn := hN x (List.mem_of_getElem? hxs)
      have Hput := Lib.hid (putNumber_yes none 0 0 [] x wr Rd.nil (by omega) hxn.1 hxn.2)
      have hl1 : (bs ++ (ns.take k).flatMap encN).length ≤ 2000000 := by rw [List.length_append, flat_len encN_length, List.length_take]; omega
      have Htk := Lib.hid (take_flat encN hxs)
      obtain ⟨A2, c2, rfl, hc2, hm2, hrd2⟩ := Hlay.out.laid.own.shape
      have b0 := Hlay.out.laid.box.cell 0
      generalize (bs ++ (ns.take k).flatMap encN).length = m2 at *
      clear hrd hx hxs
      go_wp2_with fail
      refine Calls.mono Hput.out ?_
      rintro e w1 ⟨v1, rfl, hown1, hb1⟩
      obtain ⟨A1, c1, rfl, hc1, hm1, hrd1⟩ := hown1.shapeN (n := 4) (by simp [be_length])
      have b1 := (Hlay.out.laid.box.below hb1).cell 0
      obtain ⟨A3, n3, c3, w2, hap, b2, z2, hl2⟩ := laid_app 71 (c1 := c1) Hlay.out.laid hb1 hrd1 (by rw [← hrd2.len] at hl1; omega) (Nat.le_trans hbase Hlay.out.left.size)
      have Hl2 := Lib.hid hl2
      clear hl2 hrd1 hrd2 hown1 hb1 hc0 b0
      go_wp2_with (at_builtin; refine wpList_append_run hap rfl _ _ rfl rfl rfl rfl ?_)
      go_roundw
      case rel => exact ⟨k + 1, _, by omega, by go_num, Hlay.out.trans (by have := Hl2.out; rw [List.nil_append, List.append_assoc] at this; rw [Htk.out]; exact this)⟩
      case measure => simp [intOf]; omega
    · obtain rfl : k = n := by omega
      have Hl2 := Lib.hid (show Lays w b base v (bs ++ ns.flatMap encN) wr v' from by
        have := Hlay.out
        rwa [List.take_of_length_le (by rw [← hlen, intvs_length]; exact Nat.le_refl _)] at this)
      clear Hlay hlen
      go_wp2
      first | go_end0 | refine bodyPost_ret (results_none rfl _ _ _) rfl ?_
      exact ⟨v', rfl, Hl2.out⟩
set_option maxRecDepth 100000 in
set_option maxHeartbeats 2000000 in
theorem ints_any (A : Option Addr) (n c : Nat) (ns : List Int) (b base : Nat) (v : Value) (bs : List UInt8) (w : World) (h : RdV w A n (intvs ns)) (hA : Off A b v w.heap.size) (hL : Laid w b base v bs) (hbase : base ≤ w.heap.size) (hn : n ≤ 10000) (hbs : bs.length ≤ 1000000) :
    Calls Tryz.prog 69 #[.pointer (some ⟨b, 0, none⟩), .slice A n c] w (LaidPost w b base v (bs ++ ns.flatMap encI)) := by
  have hlen := h.len
  have HR := Lib.hid h
  have HL := Lib.hid hL
  clear h hL
  go_enter Tryz.func69, Tryz.ntmps69
  go_wp2
  go_loopw [8] (NumRel encI w b base n v bs ns) (fun i _ => n - (intOf i).toNat)
  case atStart => exact ⟨0, v, Nat.zero_le _, rfl, by simpa using Lays.refl HL.out⟩
  case round =>
    obtain ⟨k, v', hk, rfl, hlay⟩ := hrel
    have Hlay := Lib.hid hlay
    clear hlay
    by_cases hlt : k < n
    · have hki : (k : Int) < (n : Int) := by omega
      have hrd := HR.out.left Hlay.out.left (fun a e => ⟨(hA a e).1, (hA a e).2.1⟩)
      obtain ⟨b', off, x0, rfl, hbl, hx, hc0⟩ := hrd.cell hlt
      obtain ⟨x, hxs, rfl⟩ := intvs_get hx
      have Hput := Lib.hid (putInt_any none 0 0 [] x wr.drew Rd.nil (by omega))
      have hl1 : (bs ++ (ns.take k).flatMap encI).length ≤ 2000000 := by rw [List.length_append, flat_len encI_length, List.length_take]; omega
      have Htk := Lib.hid (take_flat encI hxs)
      obtain ⟨A2, c2, rfl, hc2, hm2, hrd2⟩ := Hlay.out.laid.own.shape
      have b0 := Hlay.out.laid.box.cell 0
      generalize (bs ++ (ns.take k).flatMap encI).length = m2 at *
      clear hrd hx hxs
      go_wp2_with fail
      go_region_law (first | (refine step_app hap rfl (.tmp 15) (.tmp 17) rfl rfl rfl rfl ?_) | (rw [if_pos (by simp [Region.wanted])]; unfold Oper.wp; go_simp; refine Calls.mono Hput.out ?_; rintro e w1 ⟨v1, rfl, hown1, hb0⟩; have hb1 : Below wr.heap.size wr w1 := (Below.refl wr.heap.size wr).drew.trans hb0; obtain ⟨A1, c1, rfl, hc1, hm1, hrd1⟩ := hown1.shapeN (n := 8) (by simp [be_length]); have b1 := (Hlay.out.laid.box.below hb1).cell 0; obtain ⟨A3, n3, c3, w2, hap, b2, z2, hl2⟩ := laid_app 71 (c1 := c1) Hlay.out.laid hb1 hrd1 (by rw [← hrd2.len] at hl1; omega) (Nat.le_trans hbase Hlay.out.left.size); have Hl2 := Lib.hid hl2; clear hl2 hrd1 hrd2 hown1 hb0 hb1 hc0 b0; dsimp only))
      all_goals go_wp2
      all_goals
        go_roundw
        case rel => exact ⟨k + 1, _, by omega, by go_num, Hlay.out.trans (by have := Hl2.out; rw [List.nil_append, List.append_assoc] at this; rw [Htk.out]; exact this)⟩
        case measure => simp [intOf]; omega
    · obtain rfl : k = n := by omega
      have Hl2 := Lib.hid (show Lays w b base v (bs ++ ns.flatMap encI) wr v' from by
        have := Hlay.out
        rwa [List.take_of_length_le (by rw [← hlen, intvs_length]; exact Nat.le_refl _)] at this)
      clear Hlay hlen
      go_wp2
      first | go_end0 | refine bodyPost_ret (results_none rfl _ _ _) rfl ?_
      exact ⟨v', rfl, Hl2.out⟩
set_option maxHeartbeats 1000000 in
/-- A text is laid: how many bytes, and these. -/
theorem laidText_any (str : ByteArray) (b base : Nat) (v : Value) (bs : List UInt8) (w : World) (hs : str.size ≤ 65536) (hL : Laid w b base v bs) (hbase : base ≤ w.heap.size) (hbs : bs.length ≤ 1000000) :
    Calls Tryz.prog 89 #[.pointer (some ⟨b, 0, none⟩), .string str] w (LaidPost w b base v (bs ++ (be 4 str.size ++ str.data.toList))) := by
  have Hput := Lib.hid (putText_yes none 0 0 [] str w Rd.nil (by omega) hs)
  have HL := Lib.hid hL
  obtain ⟨A2, c2, rfl, hc2, hm2, hrd2⟩ := hL.own.shape
  generalize bs.length = m2 at *
  clear hL hrd2
  go_enter Tryz.func89, Tryz.ntmps89
  go_wp2_with fail
  refine Calls.mono Hput.out ?_
  rintro e w1 ⟨v1, rfl, hown1, hb1⟩
  rw [List.nil_append] at hown1
  have hl4 : (be 4 str.size ++ str.data.toList).length = 4 + str.size := by rw [List.length_append, be_length]; rfl
  obtain ⟨A1, c1, rfl, hc1, hm1, hrd1⟩ := hown1.shapeN hl4
  have b1 := (HL.out.box.below hb1).cell 0
  obtain ⟨A3, n3, c3, w2, hap, b2, z2, hl2⟩ := laid_app 71 (c1 := c1) HL.out hb1 hrd1 (by have := HL.out.own.shape; obtain ⟨_, _, e, _⟩ := this; injection e with _ e _; omega) hbase
  have Hl2 := Lib.hid hl2
  clear hl2 hrd1 hown1 hb1 hl4
  go_wp2_with (at_builtin; refine wpList_append_run hap rfl _ _ rfl rfl rfl rfl ?_)
  first | go_end0 | refine bodyPost_ret (results_none rfl _ _ _) rfl ?_
  exact ⟨_, rfl, Hl2.out⟩
end Go.Proofs.YtlnmmklpccppmaaGreatDoor
namespace Go.Proofs.YtlnmmklpccppmaaGreatDoor
open Go.RowKit
theorem Whole.setAt {w : World} {g : Nat} {t : TypeId} {xs : List Value} {m : Nat} {z u : Value} {k : Nat} (h : Whole w g t (xs ++ reps (m + 1) z)) (hk : xs.length = k) : Whole (w.setCell ⟨g, k, none⟩ u) g t ((xs ++ [u]) ++ reps m z) := by
  have := h.set k u
  rw [List.set_append_right k u (by omega), hk, Nat.sub_self] at this
  unfold reps at this ⊢
  rw [List.replicate_succ, List.set_cons_zero] at this
  rwa [List.append_assoc]
end Go.Proofs.YtlnmmklpccppmaaGreatDoor
