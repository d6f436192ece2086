/-
  Blocks are put into the order in which free ones are told: contract of rising.
-/
import Derived.Test.YthiijnanfiddpaaDoorBudB
import Derived.Test.YthiijnanfiddpaaDoorShelf
import Derived.Shelf.SlSortCmp.NoneTotal
namespace Go.Proofs.YthiijnanfiddpaaDoor
open Go.RowKit Go.Sort

theorem own_sorted {U : TypeId} {w : World} {base g cap n m : Nat} {os : Array Obj} {l l' : List Blk} (h : OwnB U w base (.slice (some ⟨g, 0, none⟩) n cap) l) (hl : l.length = n) (hl' : l'.length = n) :
    OwnB U (sortWorldK enc2 2 w g 0 m l'.toArray os) base (.slice (some ⟨g, 0, none⟩) n cap) l' := by
  obtain ⟨h1, h2⟩ := h
  rcases h2 with ⟨h2, _⟩ | ⟨g', cap', cur, hv, hb, hh, hc, hm, hs, ht⟩
  · cases h2
  · injection hv with e1 e2 e3
    injection e1 with e1
    injection e1 with e1
    subst e1
    subst e3
    have hg : g < w.heap.size := (Array.getElem?_eq_some_iff.1 hh).1
    refine ⟨by rw [bcs_length], .inr ⟨g, cap, putCells id 0 (flatK enc2 2 l'.toArray) cur, by rw [hl'], hb, ?_, by rw [hl']; omega, hm, by simp [putCells, hs], ?_⟩⟩
    · unfold sortWorldK putRowK putRow
      rw [heap_grow_old _ _ (by simpa [mapBlock, Sort.ahead] using hg)]
      have : (Sort.ahead w m).heap = w.heap := rfl
      simp only [mapBlock, this]
      rw [Array.getElem?_modify, if_pos rfl, hh]
      rfl
    · apply List.ext_getElem?
      intro i
      rw [List.getElem?_take]
      by_cases hi : i < l'.length * 2
      · rw [if_pos hi]
        have hb' : l'[i / 2]? = some (l'[i / 2]'(by omega)) := List.getElem?_eq_getElem (by omega)
        obtain ⟨b, hbe⟩ : ∃ b, b = l'[i / 2]'(by omega) := ⟨_, rfl⟩
        rw [← hbe] at hb'
        obtain ⟨q1, q2⟩ := bcs_get hb'
        have hcur : i < cur.size := by omega
        have hf := get_flatK enc2 2 l'.toArray i (by simpa using hi)
        have hb2 : l'.toArray[i / 2]! = b := by simp [hb']
        rw [hb2] at hf
        have e : (putCells id 0 (flatK enc2 2 l'.toArray) cur).toList[i]? = some (enc2 b)[i % 2]! := by
          rw [← hf]
          simp [putCells, hcur, hi]
        rw [e]
        rcases Nat.mod_two_eq_zero_or_one i with hm2 | hm2
        · rw [hm2, show i = i / 2 * 2 by omega, q1]
          rfl
        · rw [hm2, show i = i / 2 * 2 + 1 by omega, q2]
          rfl
      · rw [if_neg hi, List.getElem?_eq_none (by rw [bcs_length]; omega)]

/-- 'cmp.Compare' of the places. -/
def cmpAt (x y : Blk) : Int := Lib.compareInt x.1 y.1
theorem ltAt (x y : Blk) : ltOf cmpAt x y = decide (x.1 < y.1) := by
  unfold ltOf cmpAt Lib.compareInt
  by_cases h1 : x.1 < y.1
  · simp [h1]
  · by_cases h2 : y.1 < x.1 <;> simp [h1, h2]
theorem swoAt : SWO (ltOf cmpAt) where
  irrefl x := by rw [ltAt]; simp
  trans x y z h1 h2 := by rw [ltAt] at *; simp at *; omega
  ntrans x y z h1 h2 := by rw [ltAt] at *; simp at *; omega

set_option maxHeartbeats 1000000 in
theorem cmp_any (x y : Blk) (W : World) : Calls Tryd.prog 61 #[.agg #[.int .i64 x.1, .int .i64 x.2], .agg #[.int .i64 y.1, .int .i64 y.2]] W fun e w' => e = .returned (.int .i64 (cmpAt x y)) ∧ ∃ q os', w' = grow (W.drewN q) os' := by
  have hcon := fun W' => AnyG.cmp_Compare_int Tryd.cmpI x.1 y.1 W'
  change ∀ W', Calls Tryd.prog 62 _ _ _ at hcon
  unfold cmpAt
  generalize Lib.compareInt x.1 y.1 = r at hcon ⊢
  go_enter Tryd.func61, Tryd.ntmps61
  go_wp2_with (go_at_call 62; refine (hcon _).mono ?_; rintro e w' ⟨rfl, rfl⟩)
  go_ret
  exact ⟨rfl, 0, _, by rw [alloc_eq_grow, alloc_eq_grow, grow_grow]; rfl⟩

theorem holds_own {U : TypeId} {w : World} {base g cap n : Nat} {l : List Blk} (h : OwnB U w base (.slice (some ⟨g, 0, none⟩) n cap) l) (hl : l.length = n) : HoldsK enc2 2 w g 0 l.toArray := by
  intro j hj
  rw [size_flatK] at hj
  have hb' : l[j / 2]? = some (l[j / 2]'(by simp at hj; omega)) := List.getElem?_eq_getElem (by simp at hj; omega)
  obtain ⟨b, hbe⟩ : ∃ b, b = l[j / 2]'(by simp at hj; omega) := ⟨_, rfl⟩
  rw [← hbe] at hb'
  obtain ⟨c0, c1⟩ := h.cell hl hb'
  have hb2 : l.toArray[j / 2]! = b := by simp [hb']
  rw [get_flatK enc2 2 l.toArray j hj, hb2, Nat.zero_add]
  refine ⟨?_, h.free hl j⟩
  rcases Nat.mod_two_eq_zero_or_one j with hm2 | hm2
  · rw [hm2, show j = j / 2 * 2 by omega, c0]; rfl
  · rw [hm2, show j = j / 2 * 2 + 1 by omega, c1]; rfl

/-- What the order leaves: the same blocks, rising. -/
def Rises (base : Nat) (v : Value) (l : List Blk) (w : World) (e : Ending) (w' : World) : Prop :=
  ∃ l', e = .returned v ∧ l'.Perm l ∧ l'.Pairwise (fun a b => a.1 ≤ b.1) ∧ OwnB 32 w' base v l' ∧ w.grownBy w' v.ownBlock
theorem grown_sorted {w : World} {g m : Nat} {os : Array Obj} (d : Array Blk) : w.grownBy (sortWorldK enc2 2 w g 0 m d os) (some g) := by
  refine ⟨rfl, rfl, rfl, by simp [sortWorldK, putRowK, putRow, mapBlock, Sort.ahead], fun k hk hne => ?_⟩
  unfold sortWorldK putRowK
  rw [heap_grow_old _ _ (by simpa [putRow, mapBlock, Sort.ahead] using hk)]
  have : g ≠ k := fun e => hne (by rw [e])
  simp [putRow, mapBlock, Sort.ahead, Array.getElem?_modify, this]

set_option maxHeartbeats 1000000 in
theorem rising_any (base : Nat) (v : Value) (l : List Blk) (w : World) (h : OwnB 32 w base v l) (hl : l.length ≤ 1000) :
    Calls Tryd.prog 41 #[v] w (Rises base v l w) := by
  obtain ⟨n, hn⟩ : ∃ n, n = l.length := ⟨_, rfl⟩
  have eg : ∀ args w, (callFunc 61 args).run Tryd.prog w = .ok (.enter 61 args) w := enters_of Tryd.func61 (by kernel_rfl) rfl
  by_cases h0 : n = 0
  · obtain ⟨A, c, rfl, _⟩ := h.shape hn.symm
    subst h0
    obtain rfl : l = [] := List.eq_nil_of_length_eq_zero hn.symm
    have hcon := AnyF.slices_SortFunc_none Tryd.sortB A c (.func (.func 61) #[] #[]) w
    change Calls Tryd.prog 60 _ _ _ at hcon
    have H := Lib.hid h
    clear h hn
    go_enter Tryd.func41, Tryd.ntmps41
    go_wp2_with (go_at_call 60; refine hcon.mono ?_; rintro e w' ⟨rfl, rfl⟩)
    go_ret
    exact ⟨[], rfl, List.Perm.refl _, List.Pairwise.nil, H.out, grown_refl _ _⟩
  · obtain ⟨g, cap, rfl, _, hg, _, _⟩ := h.form hn.symm (by omega)
    have hcon := AnyQ.slices_SortFunc Tryd.sortB 2 Tryd.isAgg32 Tryd.sizeOf32 enc2 (fun _ => rfl) (fun x v hv => by simp [enc2] at hv; rcases hv with rfl | rfl <;> rfl) cmpAt swoAt 61 #[] g 0 cap l.toArray w eg
      (fun _ _ _ _ x y => cmp_any x y _) (holds_own h hn.symm) hg (by simp; omega)
    change Calls Tryd.prog 60 _ _ _ at hcon
    rw [List.size_toArray, ← hn] at hcon
    have H := Lib.hid h
    have HN := Lib.hid hn
    clear h hn
    go_enter Tryd.func41, Tryd.ntmps41
    go_wp2_with (go_at_call 60; refine hcon.mono ?_; rintro e w' ⟨rfl, d', m, os, hp, hs, hw'⟩; have HW := Lib.hid hw'; clear hw')
    go_ret
    obtain ⟨p1, _, p3⟩ := hp
    have hsz : d'.size = n := by rw [p1, List.size_toArray, HN.out]
    have e1 : (d'.extract 0 n).toList = d'.toList := by rw [← hsz, Array.extract_size]
    have e2 : (l.toArray.extract 0 n).toList = l := by rw [HN.out, ← List.size_toArray, Array.extract_size]
    rw [e1, e2] at p3
    have hlen : d'.toList.length = n := by rw [p3.length_eq, HN.out]
    refine ⟨d'.toList, rfl, p3, ?_, ?_, ?_⟩
    · rw [List.pairwise_iff_getElem]
      intro i j hi hj hij
      have := hs i j (Nat.zero_le _) hij (by omega)
      rw [ltAt] at this
      simp only [Array.length_toList] at hi hj
      rw [getElem!_pos d' j hj, getElem!_pos d' i hi] at this
      simp only [Array.getElem_toList]
      have := of_decide_eq_false this
      omega
    · rw [HW.out]
      have := own_sorted (m := m) (os := os) H.out HN.out.symm hlen
      simpa using this
    · rw [HW.out]
      exact grown_sorted d'
end Go.Proofs.YthiijnanfiddpaaDoor
