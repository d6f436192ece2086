/-
  A call of a disk (tumuluslaw07.Op), and a slice of them, as a row's frame opens it. Plain lemmas.
-/
import Derived.Test.YtoookmkfaihbpaaPdCr
import Derived.Deep.Slices
import Derived.Deep.Grids
import Derived.Lib.SmallJoins
import Derived.ChangeSame
namespace Go.Proofs.Ytoookmkfaihbpaa
open Go.ChangeShapes Go.WideShapes Go.Deep Go.Joins Go.RowKit

/-- A call that came in: its cells, and what its rows read as. -/
structure Pop where
  k : Int
  a : Int
  A : Option Addr
  m : Nat
  c : Nat
  l : List UInt8
  K : Option Addr
  j : Nat
  d : Nat
  ks : List Bool
def pcs (o : Pop) : List Value := [.int .i64 o.k, .int .i64 o.a, .slice o.A o.m o.c, .slice o.K o.j o.d]
def popv (o : Pop) : Value := .agg (pcs o).toArray
structure RdPop (w : World) (o : Pop) : Prop where
  bytes : Rd w o.A o.m o.l
  keep : RdV w o.K o.j (tvs o.ks)
theorem RdPop.below {w w' : World} {o : Pop} (h : RdPop w o) (k : Below w.heap.size w w') : RdPop w' o := ⟨h.bytes.below k, h.keep.below k⟩
theorem RdPop.drew {w : World} {o : Pop} (h : RdPop w o) : RdPop w.drew o := ⟨h.bytes.drew, h.keep.drew⟩
/-- A slice reads as calls. -/
structure RdPops (w : World) (A : Option Addr) (n : Nat) (l : List Pop) : Prop where
  len : l.length = n
  at_ : 0 < n → ∃ b off, A = some ⟨b, off, none⟩ ∧ b < w.heap.size ∧ ∀ (j : Nat) (o : Pop), l[j]? = some o → ∀ (i : Nat) (u : Value), (pcs o)[i]? = some u → w.cell? ⟨b, off + j * 4 + i, none⟩ = some u
  rd : ∀ o ∈ l, RdPop w o
theorem RdPops.below {w w' : World} {A : Option Addr} {n : Nat} {l : List Pop} (h : RdPops w A n l) (k : Below w.heap.size w w') : RdPops w' A n l :=
  ⟨h.len, fun hn => by
    obtain ⟨b, off, e, hb, hc⟩ := h.at_ hn
    exact ⟨b, off, e, Nat.lt_of_lt_of_le hb k.size, fun j o hj i u hu => (k.cell (p := ⟨b, off + j * 4 + i, none⟩) hb).trans (hc j o hj i u hu)⟩, fun o ho => (h.rd o ho).below k⟩
theorem RdPops.drew {w : World} {A : Option Addr} {n : Nat} {l : List Pop} (h : RdPops w A n l) : RdPops w.drew A n l := h.below (Below.refl _ _).drew
theorem RdPops.get {w : World} {A : Option Addr} {n : Nat} {l : List Pop} (h : RdPops w A n l) {j : Nat} (hj : j < n) : ∃ b off o, A = some ⟨b, off, none⟩ ∧ b < w.heap.size ∧ l[j]? = some o ∧ RdPop w o ∧
    w.cell? ⟨b, off + j * 4, none⟩ = some (.int .i64 o.k) ∧ w.cell? ⟨b, off + j * 4 + 1, none⟩ = some (.int .i64 o.a) ∧ w.cell? ⟨b, off + j * 4 + 2, none⟩ = some (.slice o.A o.m o.c) ∧ w.cell? ⟨b, off + j * 4 + 3, none⟩ = some (.slice o.K o.j o.d) := by
  obtain ⟨b, off, e, hb, hc⟩ := h.at_ (by omega)
  have hl : j < l.length := by have := h.len; omega
  have hg := List.getElem?_eq_getElem hl
  have hc := hc j _ hg
  exact ⟨b, off, l[j], e, hb, hg, h.rd _ (List.getElem_mem hl), hc 0 _ rfl, hc 1 _ rfl, hc 2 _ rfl, hc 3 _ rfl⟩
def IsPops (w : World) (A : Option Addr) (n : Nat) : Prop := ∃ l, RdPops w A n l

section
variable {H : Type} {enc : TypeId × Value → H} {w : World}
theorem bools_open {A : Option Addr} {len cap fuel : Nat} {x : DataW H × List MemPlace}
    (h : DataW.trod enc Try.prog w 0 (fun _ => true) true fuel 24 [.slice A len cap] = some x) : ∃ l, RdV w A len (tvs l) := by
  rcases open_bools Try.underlying24 Try.underlying4 (by kernel_rfl) h with ⟨hcs, _⟩ | ⟨a, l, c, B, hcs, _, hl, hm, _, hcell⟩
  · simp at hcs
    obtain ⟨rfl, rfl, rfl⟩ := hcs
    exact ⟨[], rfl, fun h0 => absurd h0 (by omega)⟩
  · simp at hcs
    obtain ⟨rfl, rfl, rfl⟩ := hcs
    refine ⟨(List.range len).map B, by simp [tvs], fun h0 => ?_⟩
    obtain ⟨b, off, spot⟩ := a
    have hk := hcell 0 (by omega)
    have hspot : spot = none := by simpa [Addr.add] using World.cell?_spot hk
    subst hspot
    have hlt : b < w.heap.size := by
      have := World.block_lt_of_cell? w _ hk
      simpa [Addr.add] using this
    refine ⟨b, off, rfl, hlt, fun j u hu => ?_⟩
    have hj : j < len := by
      have := (List.getElem?_eq_some_iff.1 hu).1
      simpa [tvs] using this
    have hc := hcell j (by omega)
    rw [add_plain] at hc
    rw [hc]
    simp [tvs, List.getElem?_range hj] at hu
    rw [hu]
theorem bytes_open {A : Option Addr} {len cap fuel : Nat} {x : DataW H × List MemPlace}
    (h : DataW.trod enc Try.prog w 0 (fun _ => true) true fuel 23 [.slice A len cap] = some x) : ∃ l, Rd w A len l := by
  rcases open_ints Try.underlying23 Try.underlying5 (by kernel_rfl) h with ⟨hcs, _⟩ | ⟨a, l, c, zs, hcs, _, hl, hm, hz, _, hcell, hwz⟩
  · simp at hcs
    obtain ⟨rfl, rfl, rfl⟩ := hcs
    exact ⟨[], Rd.nil⟩
  · simp at hcs
    obtain ⟨rfl, rfl, rfl⟩ := hcs
    obtain ⟨l, hr, _⟩ := rd_of_row (w := w) (a := some a) (len := len) (cap := cap) (zs := zs) (.inr ⟨a, rfl, hl, hm, by simpa using hz, hcell, hwz⟩)
    exact ⟨l, hr⟩
/-- Four cells that came in are a call. -/
theorem pop_open {cs : List Value} {fuel : Nat} {x : DataW H × List MemPlace} (h : DataW.trod enc Try.prog w 0 (fun _ => true) true fuel 35 cs = some x) : ∃ o : Pop, cs = pcs o ∧ RdPop w o := by
  have hI : Try.prog.cellsOf 3 = 1 := by kernel_rfl
  have hB : Try.prog.cellsOf 23 = 1 := by kernel_rfl
  have hK : Try.prog.cellsOf 24 = 1 := by kernel_rfl
  have hO : Try.prog.cellsOf 35 = 4 := by kernel_rfl
  obtain ⟨y0, y1, y2, y3, n, _, hlen, t0, t1, t2, t3⟩ := trod_struct4 Try.underlying35 h
  rw [hO] at hlen
  match cs, hlen with
  | [c0, c1, c2, c3], _ =>
    simp only [hI, hB, hK, List.drop_zero, List.drop_succ_cons, List.take_succ_cons, List.take_zero] at t0 t1 t2 t3
    obtain ⟨k, e0, _, _⟩ := DataW.trod_int Try.underlying3 t0
    obtain ⟨a, e1, _, _⟩ := DataW.trod_int Try.underlying3 t1
    simp at e0 e1
    subst e0
    subst e1
    obtain ⟨A, m, c, rfl⟩ : ∃ A m c, c2 = .slice A m c := by
      rcases open_slice Try.underlying23 t2 with ⟨hcs, _⟩ | ⟨a, len', cap', _, _, _, _, hcs, _⟩
      · simp at hcs
        exact ⟨_, _, _, hcs⟩
      · simp at hcs
        exact ⟨_, _, _, hcs⟩
    obtain ⟨K, j, d, rfl⟩ : ∃ A m c, c3 = .slice A m c := by
      rcases open_slice Try.underlying24 t3 with ⟨hcs, _⟩ | ⟨a, len', cap', _, _, _, _, hcs, _⟩
      · simp at hcs
        exact ⟨_, _, _, hcs⟩
      · simp at hcs
        exact ⟨_, _, _, hcs⟩
    obtain ⟨l, hl⟩ := bytes_open t2
    obtain ⟨ks, hks⟩ := bools_open t3
    exact ⟨⟨k, a, A, m, c, l, K, j, d, ks⟩, rfl, hl, hks⟩
theorem pops_open {A : Option Addr} {len cap fuel : Nat} {x : DataW H × List MemPlace}
    (h : DataW.trod enc Try.prog w 0 (fun _ => true) true fuel 22 [.slice A len cap] = some x) : IsPops w A len := by
  have h2 : Try.prog.cellsOf 35 = 4 := by kernel_rfl
  rcases open_slice Try.underlying22 h with ⟨hcs, _⟩ | ⟨a, len', cap', m, n, D, Pl, hcs, _, hl, _, hm, _, hi⟩
  · simp at hcs
    obtain ⟨rfl, rfl, rfl⟩ := hcs
    exact ⟨[], rfl, fun h => absurd h (by omega), by simp⟩
  · simp at hcs
    obtain ⟨rfl, rfl, rfl⟩ := hcs
    simp only [if_true] at hm
    subst hm
    have key : ∀ i, i < m → ∃ o : Pop, RdPop w o ∧ ∀ (j : Nat) (u : Value), (pcs o)[j]? = some u → w.cell? ((a.add (i * 4)).add j) = some u := fun i hlt => by
      obtain ⟨cs, hc, ht⟩ := hi i hlt
      rw [h2] at hc
      obtain ⟨_, hcl, hat⟩ := World.cells?_some hc
      obtain ⟨o, rfl, ho⟩ := pop_open ht
      refine ⟨o, ho, fun j u hu => ?_⟩
      have hj : j < 4 := (List.getElem?_eq_some_iff.1 hu).1
      have z := hat j hj
      rw [hu] at z
      simpa [Addr.add] using z
    have keyF : ∀ i, ∃ o : Pop, i < m → RdPop w o ∧ ∀ (j : Nat) (u : Value), (pcs o)[j]? = some u → w.cell? ((a.add (i * 4)).add j) = some u := fun i => by
      by_cases hlt : i < m
      · obtain ⟨o, h⟩ := key i hlt
        exact ⟨o, fun _ => h⟩
      · exact ⟨⟨0, 0, none, 0, 0, [], none, 0, 0, []⟩, fun h => absurd h hlt⟩
    refine ⟨(List.range len).map fun i => Classical.choose (keyF i), by simp, fun h0 => ?_, fun o ho => ?_⟩
    · obtain ⟨b, off, spot⟩ := a
      obtain ⟨o0, _, hk0⟩ := key 0 (by omega)
      have hk := hk0 0 _ rfl
      have hspot : spot = none := by simpa [Addr.add] using World.cell?_spot hk
      subst hspot
      have hlt : b < w.heap.size := by
        have := World.block_lt_of_cell? w _ hk
        simpa [Addr.add] using this
      refine ⟨b, off, rfl, hlt, fun j o hx i u hu => ?_⟩
      have hj : j < len := by
        rcases Nat.lt_or_ge j len with h | h
        · exact h
        · rw [List.getElem?_eq_none (by simp; omega)] at hx; cases hx
      simp only [List.getElem?_map, List.getElem?_range hj, Option.map_some, Option.some.injEq] at hx
      have hc := (Classical.choose_spec (keyF j) (by omega)).2
      rw [hx] at hc
      have hc := hc i u hu
      simp only [add_plain] at hc
      exact hc
    · obtain ⟨i, hi2, rfl⟩ := List.mem_map.1 ho
      exact (Classical.choose_spec (keyF i) (by have := List.mem_range.1 hi2; omega)).1
end
def IsBools (w : World) (A : Option Addr) (n : Nat) : Prop := ∃ l, RdV w A n (tvs l)
theorem bools_is {H : Type} {enc : TypeId × Value → H} {w : World} {A : Option Addr} {len cap fuel : Nat} {x : DataW H × List MemPlace}
    (h : DataW.trod enc Try.prog w 0 (fun _ => true) true fuel 24 [.slice A len cap] = some x) : IsBools w A len := bools_open h
/-- What 'large' leaves. -/
def SmallP (l : List Pop) : Prop := l.length ≤ 100 ∧ ∀ o ∈ l, o.m ≤ 1000 ∧ o.j ≤ 5000
def LgPost (w : World) (l : List Pop) (e : Ending) (w' : World) : Prop := ∃ q, e = .returned (.bool q) ∧ (q = false → SmallP l) ∧ w' = w
set_option maxHeartbeats 1000000 in
theorem large_any {A : Option Addr} {n c : Nat} {l : List Pop} {w : World} (h : RdPops w A n l) : Calls Try.prog 8 #[.slice A n c] w (LgPost w l) := by
  have hl := h.len
  by_cases hn : n ≤ 100
  · have Hh := Lib.hid h
    have Hl := Lib.hid hl
    clear h hl
    go_enter Try.func8, Try.ntmps8
    go_wp2
    go_loop [3] (fun i => ∃ k : Nat, k ≤ n ∧ i = .int .i64 (k : Int) ∧ ∀ (j : Nat) (o : Pop), j < k → l[j]? = some o → o.m ≤ 1000 ∧ o.j ≤ 5000) (fun i => n - (intOf i).toNat)
    case atStart => exact ⟨0, by omega, rfl, fun j o hj => absurd hj (Nat.not_lt_zero _)⟩
    case round =>
      obtain ⟨k, hk, rfl, hin⟩ := hrel
      have Hin := Lib.hid hin
      clear hin
      by_cases hlt : k < n
      · obtain ⟨b, off, o, rfl, hb, ho, hr, z0, z1, z2, z3⟩ := Hh.out.get hlt
        have Ho := Lib.hid ho
        clear hr z0 z1 ho
        by_cases hm : 1000 < o.m
        · go_wp2
          go_ret
          exact ⟨true, rfl, (fun h => by cases h), rfl⟩
        · by_cases hj : 5000 < o.j
          · go_wp2
            go_ret
            exact ⟨true, rfl, (fun h => by cases h), rfl⟩
          · go_wp2
            refine ⟨⟨k + 1, hlt, by go_num, fun j y hy hg => ?_⟩, by simp [intOf]; omega⟩
            rcases Nat.lt_or_ge j k with q | q
            · exact Hin.out j y q hg
            · obtain rfl : j = k := by omega
              rw [Ho.out] at hg
              injection hg with hg
              subst hg
              exact ⟨by omega, by omega⟩
      · obtain rfl : k = n := by omega
        go_wp2
        go_ret
        refine ⟨false, rfl, fun _ => ⟨by rw [Hl.out]; exact hn, fun o ho => ?_⟩, rfl⟩
        obtain ⟨j, hj⟩ := List.mem_iff_getElem?.1 ho
        exact Hin.out j o (by have := (List.getElem?_eq_some_iff.1 hj).1; rw [Hl.out] at this; exact this) hj
  · have h1 : 100 < n := by omega
    clear h hl
    go_enter Try.func8, Try.ntmps8
    go_wp2
    go_ret
    exact ⟨true, rfl, (fun h => by cases h), rfl⟩
end Go.Proofs.Ytoookmkfaihbpaa
