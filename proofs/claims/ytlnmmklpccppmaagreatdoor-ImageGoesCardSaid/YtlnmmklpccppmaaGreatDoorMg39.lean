/-
  The words of blocks that lie apart, in a map: plain mathematics.
  A slice of operations that came in, as a row's frame opens it. Plain lemmas.
  What the law TopRegion leans on: leads, over, grows: contracts.
-/
import Derived.Test.YtlnmmklpccppmaaGreatDoorMg14
import Derived.Test.YtlnmmklpccppmaaGreatDoorMg30
namespace Go.Proofs.YtlnmmklpccppmaaGreatDoor
open Go.RowKit

theorem mapped_apart {r : Int} : ∀ (n : Nat) (fs : List Blk), fs.length = n → (∀ b ∈ fs, May r b) → fs.Pairwise (fun a b => ¬ Meets b a) → ∃ m, Mapped r fs m ∧ (countL m : Int) = sumL fs
  | 0, fs, hn, _, _ => by
    obtain rfl : fs = [] := List.eq_nil_of_length_eq_zero hn
    have hmp := mapped_nil r
    refine ⟨_, hmp, ?_⟩
    unfold countL
    rw [cnt_all _ false _ fun i hi => by
      cases e : isOn (List.replicate (sz r).toNat false) i with
      | false => rfl
      | true => obtain ⟨c, hc, _⟩ := (hmp.2 i hi).1 e; cases hc]
    simp [sumL]
  | n + 1, fs, hn, hM, hA => by
    obtain ⟨fs', b, rfl⟩ : ∃ f b, fs = f ++ [b] := ⟨fs.dropLast, fs.getLast (by intro e; rw [e] at hn; simp at hn), (List.dropLast_concat_getLast _).symm⟩
    have hn' : fs'.length = n := by simp at hn; exact hn
    obtain ⟨hA1, _, hA2⟩ := List.pairwise_append.1 hA
    obtain ⟨m, hm, hc⟩ := mapped_apart n fs' hn' (fun c hc => hM c (List.mem_append_left _ hc)) hA1
    have hMb := hM b (by simp)
    have hb2 : ∀ c ∈ fs', ¬ Meets b c := fun c hc => hA2 c hc b (by simp)
    obtain ⟨p1, _, p3⟩ := hm.put hMb
    refine ⟨_, p3, ?_⟩
    obtain ⟨k0, k1, k2, k3, k4⟩ := hMb
    have hp := sz_pos b.2
    have hml := hm.1
    rw [sumL_snoc, p1]
    unfold countL
    rw [putL_length]
    have := cnt_put (f := isOn m) (g := isOn (putL m b.1.toNat (sz b.2).toNat true)) (a := b.1.toNat) (n := (sz b.2).toNat) (k := m.length - (b.1.toNat + (sz b.2).toNat)) (fun i hi hj => by
      cases e : isOn m i with
      | false => rfl
      | true =>
        obtain ⟨c, hc, hx⟩ := (hm.2 i (by omega)).1 e
        exact absurd (meets_of (show InB b (i : Int) from ⟨by omega, by omega⟩) hx) (hb2 c hc)) (fun i hi => putL_isOn _ _ _ _ (by omega))
    rw [show b.1.toNat + (sz b.2).toNat + (m.length - (b.1.toNat + (sz b.2).toNat)) = m.length by omega] at this
    unfold countL at hc
    rw [this]
    omega
theorem Mapped.count' {r : Int} {fs : List Blk} {m : List Bool} (hM : ∀ b ∈ fs, May r b) (hA : fs.Pairwise (fun a b => ¬ Meets b a)) (h : Mapped r fs m) : (countL m : Int) = sumL fs := by
  obtain ⟨m', h1, h2⟩ := mapped_apart fs.length fs rfl hM hA
  rw [mapped_same h h1]
  exact h2
/-- The words of a block that meets none are off. -/
theorem Mapped.gap {r : Int} {fs : List Blk} {m : List Bool} {b : Blk} (h : Mapped r fs m) (hb : May r b) (hc : ∀ a ∈ fs, ¬ Meets b a) : runL m b.1 (sz b.2) false = b.1 := by
  obtain ⟨h1, h2⟩ := h
  obtain ⟨k0, k1, k2, k3, k4⟩ := hb
  have hp := sz_pos b.2
  obtain ⟨x, o⟩ := b
  simp only at *
  obtain ⟨a, rfl⟩ := Int.eq_ofNat_of_zero_le k2
  obtain ⟨n, hn⟩ := Int.eq_ofNat_of_zero_le (Int.le_of_lt hp)
  rw [hn, runL_at (by omega), runAt_iff]
  refine ⟨by omega, fun k hk => ?_⟩
  cases e : isOn m (a + k) with
  | false => rfl
  | true =>
    obtain ⟨c, hcm, hx⟩ := (h2 (a + k) (by omega)).1 e
    exact absurd (meets_of (show InB ((a : Int), o) ((a + k : Nat) : Int) from ⟨by simp only; omega, by simp only [hn]; omega⟩) hx) (hc c hcm)
/-- The blocks of objects, then the free ones: all of a region. -/
def allB (H : Hp) : List Blk := H.obs.map Ob.bl ++ H.fr
theorem RightH.all {H : Hp} (k : RightH H) : (∀ b ∈ allB H, May H.od b) ∧ (allB H).Pairwise (fun a b => ¬ Meets b a) ∧ sumL (allB H) = sz H.od := by
  refine ⟨fun b hb => ?_, ?_, ?_⟩
  · rcases List.mem_append.1 hb with e | e
    · obtain ⟨x, hx, rfl⟩ := List.mem_map.1 e
      exact (k.ok x hx).2.2.2.1
    · exact k.fr.may e
  · have h := k.apart
    unfold blks at h
    rw [List.pairwise_append] at h
    unfold allB
    rw [List.pairwise_append]
    exact ⟨h.2.1, h.1, fun a ha b hb e => h.2.2 b hb a ha ⟨e.2, e.1⟩⟩
  · have h := k.sum
    unfold blks at h
    rw [sumL_append] at h
    unfold allB
    rw [sumL_append]
    omega
end Go.Proofs.YtlnmmklpccppmaaGreatDoor
namespace Go.Proofs.YtlnmmklpccppmaaGreatDoor
open Go.ChangeShapes Go.WideShapes Go.Deep Go.Joins Go.RowKit

/-- A slice reads as operations. -/
structure RdP (w : World) (A : Option Addr) (n : Nat) (l : List Opn) : Prop where
  len : l.length = n
  at_ : 0 < n → ∃ b off, A = some ⟨b, off, none⟩ ∧ b < w.heap.size ∧ ∀ (j : Nat) (o : Opn), l[j]? = some o → ∀ (i : Nat) (u : Value), (opcs o)[i]? = some u → w.cell? ⟨b, off + j * 7 + i, none⟩ = some u
theorem RdP.below {w w' : World} {A : Option Addr} {n : Nat} {l : List Opn} (h : RdP w A n l) (k : Below w.heap.size w w') : RdP w' A n l :=
  ⟨h.len, fun hn => by
    obtain ⟨b, off, e, hb, hc⟩ := h.at_ hn
    exact ⟨b, off, e, Nat.lt_of_lt_of_le hb k.size, fun j o hj i u hu => (k.cell (p := ⟨b, off + j * 7 + i, none⟩) hb).trans (hc j o hj i u hu)⟩⟩
theorem RdP.get {w : World} {A : Option Addr} {n : Nat} {l : List Opn} (h : RdP w A n l) {j : Nat} (hj : j < n) : ∃ b off o, A = some ⟨b, off, none⟩ ∧ b < w.heap.size ∧ l[j]? = some o ∧ ∀ (i : Nat) (u : Value), (opcs o)[i]? = some u → w.cell? ⟨b, off + j * 7 + i, none⟩ = some u := by
  obtain ⟨b, off, e, hb, hc⟩ := h.at_ (by omega)
  have hl : j < l.length := by have := h.len; omega
  exact ⟨b, off, l[j], e, hb, List.getElem?_eq_getElem hl, hc j _ (List.getElem?_eq_getElem hl)⟩
def IsOps (w : World) (A : Option Addr) (n : Nat) : Prop := ∃ l, RdP w A n l
theorem ops7_open {H : Type} {enc : TypeId × Value → H} {w : World} {A : Option Addr} {len cap fuel : Nat} {x : DataW H × List MemPlace}
    (h : DataW.trod enc Tryz.prog w 0 (fun _ => true) true fuel 57 [.slice A len cap] = some x) : IsOps w A len := by
  have h2 : Tryz.prog.cellsOf 50 = 7 := by kernel_rfl
  rcases open_slice Tryz.underlying57 h with ⟨hcs, _⟩ | ⟨a, len', cap', m, n, D, Pl, hcs, _, hl, _, hm, _, hi⟩
  · simp at hcs
    obtain ⟨rfl, rfl, rfl⟩ := hcs
    exact ⟨[], rfl, fun h => absurd h (by omega)⟩
  · simp at hcs
    obtain ⟨rfl, rfl, rfl⟩ := hcs
    simp only [if_true] at hm
    subst hm
    have key : ∀ i, i < m → ∃ o : Opn, ∀ (j : Nat) (u : Value), (opcs o)[j]? = some u → w.cell? ((a.add (i * 7)).add j) = some u := fun i hlt => by
      obtain ⟨cs, hc, ht⟩ := hi i hlt
      rw [h2] at hc
      obtain ⟨_, hcl, hat⟩ := World.cells?_some hc
      obtain ⟨o, rfl⟩ := op_open ht
      refine ⟨o, fun j u hu => ?_⟩
      have hj : j < 7 := (List.getElem?_eq_some_iff.1 hu).1
      have z := hat j hj
      rw [hu] at z
      simpa [Addr.add] using z
    have keyF : ∀ i, ∃ o : Opn, i < m → ∀ (j : Nat) (u : Value), (opcs o)[j]? = some u → w.cell? ((a.add (i * 7)).add j) = some u := fun i => by
      by_cases hlt : i < m
      · obtain ⟨o, h⟩ := key i hlt
        exact ⟨o, fun _ => h⟩
      · exact ⟨⟨0, 0, 0, 0, 0, 0, 0⟩, fun h => absurd h hlt⟩
    refine ⟨(List.range len).map fun i => Classical.choose (keyF i), by simp, fun h0 => ?_⟩
    obtain ⟨b, off, spot⟩ := a
    obtain ⟨o0, hk0⟩ := key 0 (by omega)
    have hk := hk0 0 _ rfl
    have hspot : spot = none := by simpa [Addr.add] using World.cell?_spot hk
    subst hspot
    have hlt : b < w.heap.size := by
      have := World.block_lt_of_cell? w _ hk
      simpa [Addr.add] using this
    refine ⟨b, off, rfl, hlt, fun j o hx i u hu => ?_⟩
    have hj : j < len := by
      rcases Nat.lt_or_ge j len with h | h
      · exact h
      · rw [List.getElem?_eq_none (by simp; omega)] at hx; cases hx
    simp only [List.getElem?_map, List.getElem?_range hj, Option.map_some, Option.some.injEq] at hx
    have hc := Classical.choose_spec (keyF j) (by omega)
    rw [hx] at hc
    have hc := hc i u hu
    simp only [add_plain] at hc
    exact hc
end Go.Proofs.YtlnmmklpccppmaaGreatDoor
namespace Go.Proofs.YtlnmmklpccppmaaGreatDoor
open Go.RowKit

theorem leads_find {H : Hp} {t : Int} {j : Nat} {x : Ob} (hx : H.obs[j]? = some x) (h : x.hd = t) : decide (Leads H t) = true := decide_eq_true (.inr ⟨x, List.mem_of_getElem? hx, h⟩)
theorem leads_miss {H : Hp} {t : Int} (h : ∀ (j : Nat) y, j < H.obs.length → H.obs[j]? = some y → y.hd ≠ t) : decide (Leads H t) = (t == 0) := by
  by_cases e : t = 0
  · rw [decide_eq_true (show Leads H t from .inl e)]; simp [e]
  · rw [decide_eq_false]
    · simp [e]
    · rintro (q | ⟨x, hx, q⟩)
      · exact e q
      · obtain ⟨j, hj, hje⟩ := List.getElem_of_mem hx
        exact h j x hj (by rw [List.getElem?_eq_getElem hj, hje]) q
theorem took_c : Took [(0, 3)] 1 (0, 1) [(2, 1), (4, 2)] := by
  refine ⟨(0, 3), by simp, by decide, fun c hc _ => ?_, rfl, ?_, fun c => ?_⟩
  · rw [List.mem_singleton.1 hc]; exact Lq.refl _
  · rw [List.pairwise_cons]
    exact ⟨fun b hb => by rw [List.mem_singleton.1 hb]; decide, List.pairwise_singleton _ _⟩
  · unfold IsHalf
    simp only [List.mem_cons, List.not_mem_nil, or_false]
    constructor
    · rintro (rfl | rfl)
      · exact .inr ⟨by decide, by decide, by decide⟩
      · exact .inr ⟨by decide, by decide, by decide⟩
    · rintro (⟨h1, h2⟩ | ⟨h1, h2, h3⟩)
      · exact absurd h1 h2
      · have h1' : (1 : Int) ≤ c.2 := h1
        have h2' : c.2 < 3 := h2
        rcases (by omega : c.2 = 1 ∨ c.2 = 2) with e | e
        · rw [e] at h3; exact .inl (Prod.ext h3 e)
        · rw [e] at h3; exact .inr (Prod.ext h3 e)
def oneH : Hp := ⟨3, [⟨1, (0, 1), [0], []⟩], 2, [0, 0, 0, 0], [(2, 1), (4, 2)]⟩
theorem one_is : doH (newH 3) ⟨1, 0, 0, 1, 0, 0, 0⟩ = (oneH, 0, 1) := by
  rw [doH_right (right_newH (by omega)), doneH_alloc rfl]
  exact alloc_gives (N := 1) (by decide) (by decide) (by decide) (by decide) took_c
end Go.Proofs.YtlnmmklpccppmaaGreatDoor
