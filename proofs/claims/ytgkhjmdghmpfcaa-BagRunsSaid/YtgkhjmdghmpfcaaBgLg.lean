/-
  Calls of a bag that came in; what is too large (large): contract.
-/
import Derived.Test.YtgkhjmdghmpfcaaBgLawA
namespace Go.Proofs.Ytgkhjmdghmpfcaa
open Go.ChangeShapes Go.WideShapes Go.Deep Go.Joins Go.RowKit

/-- A call: its numbers, and where its messages lie. -/
structure BOp where
  k : Int
  n : Int
  A : Option Addr
  m : Nat
  c : Nat
  l : List (Ms × Value)
def bcs (o : BOp) : List Value := [.int .i64 o.k, .int .i64 o.n, .slice o.A o.m o.c]
theorem bcs_len (o : BOp) : (bcs o).length = 3 := rfl
def bov (o : BOp) : Value := .agg (bcs o).toArray
def RdB (w : World) (o : BOp) : Prop := RdM w o.A o.m o.l
structure RdBs (w : World) (A : Option Addr) (n : Nat) (l : List BOp) : Prop where
  len : l.length = n
  rd : RdC w A n 3 (l.flatMap bcs)
  ops : ∀ o ∈ l, RdB w o
theorem RdBs.below {w w' : World} {A : Option Addr} {n : Nat} {l : List BOp} (h : RdBs w A n l) (hb : Below w.heap.size w w') : RdBs w' A n l := ⟨h.len, h.rd.below hb, fun o ho => RdM.below (h.ops o ho) hb⟩
theorem RdBs.get {w : World} {A : Option Addr} {n : Nat} {l : List BOp} (h : RdBs w A n l) {j : Nat} (hj : j < n) : ∃ b off o, A = some ⟨b, off, none⟩ ∧ b < w.heap.size ∧ l[j]? = some o ∧ RdB w o ∧ w.rangeAt b (off + j * 3) (bcs o) := by
  obtain ⟨b, off, e, hb, hc⟩ := h.rd.at_ (by omega)
  have hl : j < l.length := by have := h.len; omega
  have hg := List.getElem?_eq_getElem hl
  exact ⟨b, off, l[j], e, hb, hg, h.ops _ (List.getElem_mem hl), fun i u hu => by rw [Nat.add_assoc]; exact hc _ _ (fm_get bcs_len hg hu)⟩
section
variable {H : Type} {enc : TypeId × Value → H} {w : World}
/-- Three cells that came in are a call. -/
theorem bop_open {cs : List Value} {fuel : Nat} {x : DataW H × List MemPlace} (h : DataW.trod enc Try.prog w 0 (fun _ => true) true fuel 33 cs = some x) : ∃ o : BOp, cs = bcs o ∧ RdB w o := by
  have hl : cs.length = 3 := (len_open Try.underlying33 h).trans (by kernel_rfl)
  obtain ⟨_, _, g0⟩ := fld_open Try.underlying33 h (i := 0) rfl (T := 3) (o := 0) (k := 1) rfl rfl (by kernel_rfl)
  obtain ⟨z0, c0, _, _⟩ := DataW.trod_int Try.underlying3 g0
  have q0 := get_open c0
  obtain ⟨_, _, g1⟩ := fld_open Try.underlying33 h (i := 1) rfl (T := 3) (o := 1) (k := 1) rfl rfl (by kernel_rfl)
  obtain ⟨z1, c1, _, _⟩ := DataW.trod_int Try.underlying3 g1
  have q1 := get_open c1
  obtain ⟨_, _, g2⟩ := fld_open Try.underlying33 h (i := 2) rfl (T := 29) (o := 2) (k := 1) rfl rfl (by kernel_rfl)
  obtain ⟨A, m, c, c2⟩ := slice_form Try.underlying29 g2
  have q2 := get_open c2
  rw [c2] at g2
  obtain ⟨l, hM⟩ := mss_open g2
  refine ⟨⟨z0, z1, A, m, c, l⟩, List.ext_getElem? fun j => ?_, hM⟩
  match j with
  | 0 => exact q0
  | 1 => exact q1
  | 2 => exact q2
  | j + 3 => rw [List.getElem?_eq_none (by omega), List.getElem?_eq_none (by simp [bcs])]
/-- A slice of calls that came in. -/
def IsBops (w : World) (A : Option Addr) (n : Nat) : Prop := ∃ l, RdBs w A n l
theorem bops_open {A : Option Addr} {len cap fuel : Nat} {x : DataW H × List MemPlace} (h : DataW.trod enc Try.prog w 0 (fun _ => true) true fuel 22 [.slice A len cap] = some x) : IsBops w A len := by
  obtain ⟨l, h1, h2, h3, _⟩ := rows_of bcs_len (by omega) Try.underlying22 (by kernel_rfl) (fun h => bop_open h) h
  exact ⟨l, h1, h2, h3⟩
end
/-- What is small enough to be looked at. -/
def SmallB (l : List BOp) : Prop := l.length ≤ 60 ∧ ∀ o ∈ l, o.m ≤ 300 ∧ ∀ q ∈ o.l, SmallM q.1
def LgPost (w : World) (l : List BOp) (x : Ending) (w' : World) : Prop := ∃ b, x = .returned (.bool b) ∧ (b = false → SmallB l) ∧ Below w.heap.size w w'
def LgRel (w : World) (l : List BOp) (s i : Value) (wr : World) : Prop := ∃ j n : Nat, j ≤ l.length ∧ i = .int .i64 (j : Int) ∧ s = .int .i64 (n : Int) ∧ n ≤ 300 ∧ (∀ o ∈ l.take j, o.m ≤ 300 ∧ ∀ q ∈ o.l, SmallM q.1) ∧ Below w.heap.size w wr
def LgIn (w : World) (l : List (Ms × Value)) (i : Value) (wr : World) : Prop := ∃ j : Nat, j ≤ l.length ∧ i = .int .i64 (j : Int) ∧ (∀ q ∈ l.take j, SmallM q.1) ∧ Below w.heap.size w wr
set_option maxRecDepth 20000 in
set_option maxHeartbeats 2000000 in
theorem large_any {A : Option Addr} {n c : Nat} {l : List BOp} {w : World} (h : RdBs w A n l) : Calls Try.prog 8 #[.slice A n c] w (LgPost w l) := by
  have hl := h.len
  by_cases hn : n ≤ 60
  · have Hh := Lib.hid h
    have Hl := Lib.hid hl
    clear h hl
    go_enter Try.func8, Try.ntmps8
    go_wp2
    go_loopw [3, 4] (LgRel w l) (fun _ i _ => n - (Go.RowKit.intOf i).toNat)
    case atStart => exact ⟨0, 0, Nat.zero_le _, rfl, rfl, by omega, (fun o ho => by simp at ho), Below.refl _ _⟩
    case round =>
      obtain ⟨wo, hwo⟩ : ∃ wo, wo = wr := ⟨_, rfl⟩
      subst hwo
      obtain ⟨j, s, hj, rfl, rfl, hs, hin, hb⟩ := hrel
      have Hin := Lib.hid hin
      have HB := Lib.hid hb
      clear hin
      by_cases hlt : j < n
      · obtain ⟨b, off, o, rfl, hbl, ho, hro, hco⟩ := (Hh.out.below hb).get hlt
        have z2 : wo.cell? ⟨b, off + j * 3 + 2, none⟩ = some (.slice o.A o.m o.c) := hco 2 _ rfl
        have Ho := Lib.hid ho
        have HRo := Lib.hid (show RdM wo o.A o.m o.l from hro)
        have hol : o.l.length = o.m := HRo.out.len
        have Hol := Lib.hid hol
        have Hbl := Lib.hid hbl
        have hjn : (j : Int) < (n : Int) := by omega
        clear hb ho hro hco hol hbl
        by_cases hbig : 300 - s < o.m
        · have hbi : (300 : Int) - (s : Int) < (o.m : Int) := by omega
          go_wp2
          go_ret
          exact ⟨true, rfl, (fun q => by cases q), HB.out⟩
        · have hbi : ¬ ((300 : Int) - (s : Int) < (o.m : Int)) := by omega
          obtain ⟨m, hm⟩ : ∃ m, m = o.m := ⟨_, rfl⟩
          obtain ⟨s2, hs2⟩ : ∃ s2, s2 = s + m := ⟨_, rfl⟩
          have hsi : (s : Int) + (m : Int) = (s2 : Int) := by omega
          rw [← hm] at z2 hbi hbig
          have Hm := Lib.hid hm
          have Hs2 := Lib.hid hs2
          have hs3 : s2 ≤ 300 := by omega
          have hm3 : m ≤ 300 := by omega
          clear hbig hm hs2
          go_wp2
          go_loopw [5] (LgIn wo o.l) (fun i _ => m - (Go.RowKit.intOf i).toNat)
          case atStart => exact ⟨0, Nat.zero_le _, rfl, (fun q hq => by simp at hq), Below.refl _ _⟩
          case round =>
            obtain ⟨k, hk, rfl, hsk, hbk⟩ := hrel
            have z3 : wr.cell? ⟨b, off + j * 3 + 2, none⟩ = some (.slice o.A m o.c) := (hbk.cell (p := ⟨b, off + j * 3 + 2, none⟩) Hbl.out).trans z2
            have Hsk := Lib.hid hsk
            have HBk := Lib.hid hbk
            clear z2 hsk
            by_cases hkm : k < m
            · obtain ⟨b2, o2, ⟨ms, me⟩, hA2, hb2, hx2, hr2, hc2⟩ := (HRo.out.below hbk).get (by rw [← Hm.out]; exact hkm)
              rw [hA2] at z3
              clear hA2
              have ld := load_ms hc2
              have HBg := big_any ms me wr hr2
              have Hx2 := Lib.hid hx2
              have hki : (k : Int) < (m : Int) := by omega
              clear hc2 hr2 hb2 hx2 hbk hk
              go_upto_region 14 with (first | (refine wpList_load_run ld rfl _ rfl rfl ?_) | (go_at_call 16; refine HBg.mono ?_; rintro x w2 ⟨q, rfl, hq, b2'⟩; have HQ := Lib.hid hq; have HB2 := Lib.hid (HBk.out.trans (b2'.mono HBk.out.size)); clear hq b2'; cases q))
              · have HN := Lib.hid (show ∀ q ∈ o.l.take (k + 1), SmallM q.1 from fun q hq => by
                  rw [take_snoc Hx2.out] at hq
                  rcases List.mem_append.1 hq with h | h
                  · exact Hsk.out q h
                  · rw [List.mem_singleton.1 h]
                    exact HQ.out trivial)
                go_roundw
                case rel => exact ⟨k + 1, by have := Hol.out; have := Hm.out; omega, by go_num, HN.out, HB2.out⟩
                case measure => simp [Go.RowKit.intOf]; omega
              · have HB3 := Lib.hid (HB.out.trans (HB2.out.mono HB.out.size))
                go_wp2
                go_ret
                exact ⟨true, rfl, (fun q => by cases q), HB3.out⟩
            · obtain rfl : k = m := by have := Hol.out; have := Hm.out; omega
              have HN := Lib.hid (show ∀ o' ∈ l.take (j + 1), o'.m ≤ 300 ∧ ∀ q ∈ o'.l, SmallM q.1 from fun o' ho' => by
                rw [take_snoc Ho.out] at ho'
                rcases List.mem_append.1 ho' with h | h
                · exact Hin.out o' h
                · rw [List.mem_singleton.1 h]
                  refine ⟨by rw [← Hm.out]; exact hm3, fun q hq => Hsk.out q ?_⟩
                  rw [List.take_of_length_le (by have := Hol.out; have := Hm.out; omega)]
                  exact hq)
              have HB3 := Lib.hid (HB.out.trans (HBk.out.mono HB.out.size))
              clear hbk
              go_wp2
              go_roundw
              case rel => exact ⟨j + 1, s2, by have := Hl.out; omega, by go_num, rfl, hs3, HN.out, HB3.out⟩
              case measure => simp [Go.RowKit.intOf]; omega
      · obtain rfl : j = n := by have := Hl.out; omega
        have HF := Lib.hid (show SmallB l from ⟨by rw [Hl.out]; exact hn, fun o ho => Hin.out o (by rw [List.take_of_length_le (by have := Hl.out; omega)]; exact ho)⟩)
        go_wp2
        go_ret
        exact ⟨false, rfl, (fun _ => HF.out), HB.out⟩
  · have h1 : 60 < n := by omega
    clear h hl
    go_enter Try.func8, Try.ntmps8
    go_wp2
    go_ret
    exact ⟨true, rfl, (fun q => by cases q), Below.refl _ _⟩
end Go.Proofs.Ytgkhjmdghmpfcaa
