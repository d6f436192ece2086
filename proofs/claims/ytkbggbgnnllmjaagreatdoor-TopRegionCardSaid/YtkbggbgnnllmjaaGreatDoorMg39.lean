/-
  The words of blocks that lie apart, in a map: plain mathematics.
  A slice of operations that came in, as a row's frame opens it. Plain lemmas.
  What the law TopRegion leans on: leads, over, grows: contracts.
-/
import Derived.Test.YtkbggbgnnllmjaaGreatDoorMg14
import Derived.Test.YtkbggbgnnllmjaaGreatDoorMg30
namespace Go.Proofs.YtkbggbgnnllmjaaGreatDoor
open Go.RowKit

theorem mapped_apart {r : Int} : ∀ (n : Nat) (fs : List Blk), fs.length = n → (∀ b ∈ fs, May r b) → fs.Pairwise (fun a b => ¬ Meets b a) → ∃ m, Mapped r fs m ∧ (countL m : Int) = sumL fs
  | 0, fs, hn, _, _ => by
    obtain rfl : fs = [] := List.eq_nil_of_length_eq_zero hn
    have hmp := mapped_nil r
    refine ⟨_, hmp, ?_⟩
    unfold countL
    rw [cnt_all _ false _ fun i hi => by
      cases e : isOn (List.replicate (sz r).toNat false) i with
      | false => rfl
      | true => obtain ⟨c, hc, _⟩ := (hmp.2 i hi).1 e; cases hc]
    simp [sumL]
  | n + 1, fs, hn, hM, hA => by
    obtain ⟨fs', b, rfl⟩ : ∃ f b, fs = f ++ [b] := ⟨fs.dropLast, fs.getLast (by intro e; rw [e] at hn; simp at hn), (List.dropLast_concat_getLast _).symm⟩
    have hn' : fs'.length = n := by simp at hn; exact hn
    obtain ⟨hA1, _, hA2⟩ := List.pairwise_append.1 hA
    obtain ⟨m, hm, hc⟩ := mapped_apart n fs' hn' (fun c hc => hM c (List.mem_append_left _ hc)) hA1
    have hMb := hM b (by simp)
    have hb2 : ∀ c ∈ fs', ¬ Meets b c := fun c hc => hA2 c hc b (by simp)
    obtain ⟨p1, _, p3⟩ := hm.put hMb
    refine ⟨_, p3, ?_⟩
    obtain ⟨k0, k1, k2, k3, k4⟩ := hMb
    have hp := sz_pos b.2
    have hml := hm.1
    rw [sumL_snoc, p1]
    unfold countL
    rw [putL_length]
    have := cnt_put (f := isOn m) (g := isOn (putL m b.1.toNat (sz b.2).toNat true)) (a := b.1.toNat) (n := (sz b.2).toNat) (k := m.length - (b.1.toNat + (sz b.2).toNat)) (fun i hi hj => by
      cases e : isOn m i with
      | false => rfl
      | true =>
        obtain ⟨c, hc, hx⟩ := (hm.2 i (by omega)).1 e
        exact absurd (meets_of (show InB b (i : Int) from ⟨by omega, by omega⟩) hx) (hb2 c hc)) (fun i hi => putL_isOn _ _ _ _ (by omega))
    rw [show b.1.toNat + (sz b.2).toNat + (m.length - (b.1.toNat + (sz b.2).toNat)) = m.length by omega] at this
    unfold countL at hc
    rw [this]
    omega
theorem Mapped.count' {r : Int} {fs : List Blk} {m : List Bool} (hM : ∀ b ∈ fs, May r b) (hA : fs.Pairwise (fun a b => ¬ Meets b a)) (h : Mapped r fs m) : (countL m : Int) = sumL fs := by
  obtain ⟨m', h1, h2⟩ := mapped_apart fs.length fs rfl hM hA
  rw [mapped_same h h1]
  exact h2
/-- The words of a block that meets none are off. -/
theorem Mapped.gap {r : Int} {fs : List Blk} {m : List Bool} {b : Blk} (h : Mapped r fs m) (hb : May r b) (hc : ∀ a ∈ fs, ¬ Meets b a) : runL m b.1 (sz b.2) false = b.1 := by
  obtain ⟨h1, h2⟩ := h
  obtain ⟨k0, k1, k2, k3, k4⟩ := hb
  have hp := sz_pos b.2
  obtain ⟨x, o⟩ := b
  simp only at *
  obtain ⟨a, rfl⟩ := Int.eq_ofNat_of_zero_le k2
  obtain ⟨n, hn⟩ := Int.eq_ofNat_of_zero_le (Int.le_of_lt hp)
  rw [hn, runL_at (by omega), runAt_iff]
  refine ⟨by omega, fun k hk => ?_⟩
  cases e : isOn m (a + k) with
  | false => rfl
  | true =>
    obtain ⟨c, hcm, hx⟩ := (h2 (a + k) (by omega)).1 e
    exact absurd (meets_of (show InB ((a : Int), o) ((a + k : Nat) : Int) from ⟨by simp only; omega, by simp only [hn]; omega⟩) hx) (hc c hcm)
/-- The blocks of objects, then the free ones: all of a region. -/
def allB (H : Hp) : List Blk := H.obs.map Ob.bl ++ H.fr
theorem RightH.all {H : Hp} (k : RightH H) : (∀ b ∈ allB H, May H.od b) ∧ (allB H).Pairwise (fun a b => ¬ Meets b a) ∧ sumL (allB H) = sz H.od := by
  refine ⟨fun b hb => ?_, ?_, ?_⟩
  · rcases List.mem_append.1 hb with e | e
    · obtain ⟨x, hx, rfl⟩ := List.mem_map.1 e
      exact (k.ok x hx).2.2.2.1
    · exact k.fr.may e
  · have h := k.apart
    unfold blks at h
    rw [List.pairwise_append] at h
    unfold allB
    rw [List.pairwise_append]
    exact ⟨h.2.1, h.1, fun a ha b hb e => h.2.2 b hb a ha ⟨e.2, e.1⟩⟩
  · have h := k.sum
    unfold blks at h
    rw [sumL_append] at h
    unfold allB
    rw [sumL_append]
    omega
end Go.Proofs.YtkbggbgnnllmjaaGreatDoor
namespace Go.Proofs.YtkbggbgnnllmjaaGreatDoor
open Go.ChangeShapes Go.WideShapes Go.Deep Go.Joins Go.RowKit

/-- A slice reads as operations. -/
structure RdP (w : World) (A : Option Addr) (n : Nat) (l : List Opn) : Prop where
  len : l.length = n
  at_ : 0 < n → ∃ b off, A = some ⟨b, off, none⟩ ∧ b < w.heap.size ∧ ∀ (j : Nat) (o : Opn), l[j]? = some o → ∀ (i : Nat) (u : Value), (opcs o)[i]? = some u → w.cell? ⟨b, off + j * 7 + i, none⟩ = some u
theorem RdP.below {w w' : World} {A : Option Addr} {n : Nat} {l : List Opn} (h : RdP w A n l) (k : Below w.heap.size w w') : RdP w' A n l :=
  ⟨h.len, fun hn => by
    obtain ⟨b, off, e, hb, hc⟩ := h.at_ hn
    exact ⟨b, off, e, Nat.lt_of_lt_of_le hb k.size, fun j o hj i u hu => (k.cell (p := ⟨b, off + j * 7 + i, none⟩) hb).trans (hc j o hj i u hu)⟩⟩
theorem RdP.get {w : World} {A : Option Addr} {n : Nat} {l : List Opn} (h : RdP w A n l) {j : Nat} (hj : j < n) : ∃ b off o, A = some ⟨b, off, none⟩ ∧ b < w.heap.size ∧ l[j]? = some o ∧ ∀ (i : Nat) (u : Value), (opcs o)[i]? = some u → w.cell? ⟨b, off + j * 7 + i, none⟩ = some u := by
  obtain ⟨b, off, e, hb, hc⟩ := h.at_ (by omega)
  have hl : j < l.length := by have := h.len; omega
  exact ⟨b, off, l[j], e, hb, List.getElem?_eq_getElem hl, hc j _ (List.getElem?_eq_getElem hl)⟩
def IsOps (w : World) (A : Option Addr) (n : Nat) : Prop := ∃ l, RdP w A n l
theorem ops7_open {H : Type} {enc : TypeId × Value → H} {w : World} {A : Option Addr} {len cap fuel : Nat} {x : DataW H × List MemPlace}
    (h : DataW.trod enc Tryz.prog w 0 (fun _ => true) true fuel 55 [.slice A len cap] = some x) : IsOps w A len := by
  have h2 : Tryz.prog.cellsOf 29 = 7 := by kernel_rfl
  rcases open_slice Tryz.underlying55 h with ⟨hcs, _⟩ | ⟨a, len', cap', m, n, D, Pl, hcs, _, hl, _, hm, _, hi⟩
  · simp at hcs
    obtain ⟨rfl, rfl, rfl⟩ := hcs
    exact ⟨[], rfl, fun h => absurd h (by omega)⟩
  · simp at hcs
    obtain ⟨rfl, rfl, rfl⟩ := hcs
    simp only [if_true] at hm
    subst hm
    have key : ∀ i, i < m → ∃ o : Opn, ∀ (j : Nat) (u : Value), (opcs o)[j]? = some u → w.cell? ((a.add (i * 7)).add j) = some u := fun i hlt => by
      obtain ⟨cs, hc, ht⟩ := hi i hlt
      rw [h2] at hc
      obtain ⟨_, hcl, hat⟩ := World.cells?_some hc
      obtain ⟨o, rfl⟩ := op_open ht
      refine ⟨o, fun j u hu => ?_⟩
      have hj : j < 7 := (List.getElem?_eq_some_iff.1 hu).1
      have z := hat j hj
      rw [hu] at z
      simpa [Addr.add] using z
    have keyF : ∀ i, ∃ o : Opn, i < m → ∀ (j : Nat) (u : Value), (opcs o)[j]? = some u → w.cell? ((a.add (i * 7)).add j) = some u := fun i => by
      by_cases hlt : i < m
      · obtain ⟨o, h⟩ := key i hlt
        exact ⟨o, fun _ => h⟩
      · exact ⟨⟨0, 0, 0, 0, 0, 0, 0⟩, fun h => absurd h hlt⟩
    refine ⟨(List.range len).map fun i => Classical.choose (keyF i), by simp, fun h0 => ?_⟩
    obtain ⟨b, off, spot⟩ := a
    obtain ⟨o0, hk0⟩ := key 0 (by omega)
    have hk := hk0 0 _ rfl
    have hspot : spot = none := by simpa [Addr.add] using World.cell?_spot hk
    subst hspot
    have hlt : b < w.heap.size := by
      have := World.block_lt_of_cell? w _ hk
      simpa [Addr.add] using this
    refine ⟨b, off, rfl, hlt, fun j o hx i u hu => ?_⟩
    have hj : j < len := by
      rcases Nat.lt_or_ge j len with h | h
      · exact h
      · rw [List.getElem?_eq_none (by simp; omega)] at hx; cases hx
    simp only [List.getElem?_map, List.getElem?_range hj, Option.map_some, Option.some.injEq] at hx
    have hc := Classical.choose_spec (keyF j) (by omega)
    rw [hx] at hc
    have hc := hc i u hu
    simp only [add_plain] at hc
    exact hc
end Go.Proofs.YtkbggbgnnllmjaaGreatDoor
namespace Go.Proofs.YtkbggbgnnllmjaaGreatDoor
open Go.RowKit

theorem leads_find {H : Hp} {t : Int} {j : Nat} {x : Ob} (hx : H.obs[j]? = some x) (h : x.hd = t) : decide (Leads H t) = true := decide_eq_true (.inr ⟨x, List.mem_of_getElem? hx, h⟩)
theorem leads_miss {H : Hp} {t : Int} (h : ∀ (j : Nat) y, j < H.obs.length → H.obs[j]? = some y → y.hd ≠ t) : decide (Leads H t) = (t == 0) := by
  by_cases e : t = 0
  · rw [decide_eq_true (show Leads H t from .inl e)]; simp [e]
  · rw [decide_eq_false]
    · simp [e]
    · rintro (q | ⟨x, hx, q⟩)
      · exact e q
      · obtain ⟨j, hj, hje⟩ := List.getElem_of_mem hx
        exact h j x hj (by rw [List.getElem?_eq_getElem hj, hje]) q
theorem topLeads_any (s : HSl) (H : Hp) (g : Int) (w : World) (h : RdH w s H) (hn : s.n ≤ 1000) :
    Calls Tryz.prog 30 #[hval H s, .int .i64 g] w (Says w (.bool (decide (Leads H g)))) := by
  have g1 := (Grew.refl w).alloc (.cells (hcs H s).toArray 26)
  have K1 := Lib.hid (Whole.new w (hcs H s).toArray 26)
  have HO := Lib.hid (h.obs.below g1.below)
  have hlen := Lib.hid h.obs.len
  obtain ⟨A, n, c, F, m, d⟩ := s
  clear h
  unfold hval hcs at *
  simp only at *
  have c1 := K1.out.cell 1
  simp only [List.getElem?_cons_succ, List.getElem?_cons_zero] at c1
  clear c1
  go_enter Tryz.func30, Tryz.ntmps30
  go_wp2
  go_loopw [5] (PlaceRel (w.alloc (.cells #[.int .i64 H.od, .slice A n c, .int .i64 H.nx, .int .i64 (tget H 0), .int .i64 (tget H 1), .int .i64 (tget H 2), .int .i64 (tget H 3), .slice F m d] 26)) H.obs g) (fun i _ => n - (intOf i).toNat)
  case atStart => exact ⟨0, Nat.zero_le _, rfl, fun j y hj => absurd hj (Nat.not_lt_zero _), Grew.refl _⟩
  case round =>
    obtain ⟨k, hk, rfl, hno, gr⟩ := hrel
    have c1 := (K1.out.below gr.below).cell 1
    simp only [List.getElem?_cons_succ, List.getElem?_cons_zero] at c1
    have Hno := Lib.hid hno
    clear hno
    by_cases hlt : k < n
    · obtain ⟨b', off, x, rfl, hbl, hx, A1, n1, e1, B1, m1, d1, h0, _, _, _, _, _, _⟩ := HO.out.get hlt
      have z0 := (gr.below.cell (p := ⟨b', off + k * 5, none⟩) hbl).trans h0
      have Hx := Lib.hid hx
      have hki : (k : Int) < (n : Int) := by omega
      clear h0 hx
      by_cases he : x.hd = g
      · have hd : decide (x.hd = g) = true := decide_eq_true he
        have hd2 : (x.hd == g) = true := by simp [he]
        have Hp := Lib.hid (leads_find Hx.out he)
        clear he
        go_wp2
        go_ret
        exact ⟨by rw [Hp.out]; rfl, g1.trans gr⟩
      · have hd : decide (x.hd = g) = false := decide_eq_false he
        have hd2 : (x.hd == g) = false := by simp [he]
        have He := Lib.hid he
        clear he
        go_wp2
        go_roundw
        case rel => exact ⟨k + 1, by have := hlen.out; omega, by go_num, fun j y hj hy => by
          rcases Nat.lt_or_ge j k with q | q
          · exact Hno.out j y q hy
          · obtain rfl : j = k := by omega
            rw [Hx.out] at hy
            injection hy with hy
            rw [← hy]; exact He.out, gr⟩
        case measure => simp [intOf]; omega
    · obtain rfl : k = n := by have := hlen.out; omega
      have Hp := Lib.hid (leads_miss (H := H) (t := g) fun j y hj hy => Hno.out j y (by have := hlen.out; omega) hy)
      go_wp2
      go_ret
      exact ⟨by rw [Hp.out]; rfl, g1.trans gr⟩
theorem topOver_any (A : Option Addr) (n c : Nat) (w : World) (hn : n ≤ 60) : Calls Tryz.prog 26 #[.slice A n c] w fun e w' => e = .returned (.bool false) ∧ w = w' := by
  have h : decide (60 < (n : Int)) = false := by simp; omega
  go_enter Tryz.func26, Tryz.ntmps26
  go_wp2
  go_ret
  exact ⟨rfl, rfl⟩
theorem topOver_big (A : Option Addr) (n c : Nat) (w : World) (hn : ¬ n ≤ 60) : Calls Tryz.prog 26 #[.slice A n c] w fun e w' => e = .returned (.bool true) ∧ w = w' := by
  have h : decide (60 < (n : Int)) = true := by simp; omega
  go_enter Tryz.func26, Tryz.ntmps26
  go_wp2
  go_ret
  exact ⟨rfl, rfl⟩
theorem took_c : Took [(0, 3)] 1 (0, 1) [(2, 1), (4, 2)] := by
  refine ⟨(0, 3), by simp, by decide, fun c hc _ => ?_, rfl, ?_, fun c => ?_⟩
  · rw [List.mem_singleton.1 hc]; exact Lq.refl _
  · rw [List.pairwise_cons]
    exact ⟨fun b hb => by rw [List.mem_singleton.1 hb]; decide, List.pairwise_singleton _ _⟩
  · unfold IsHalf
    simp only [List.mem_cons, List.not_mem_nil, or_false]
    constructor
    · rintro (rfl | rfl)
      · exact .inr ⟨by decide, by decide, by decide⟩
      · exact .inr ⟨by decide, by decide, by decide⟩
    · rintro (⟨h1, h2⟩ | ⟨h1, h2, h3⟩)
      · exact absurd h1 h2
      · have h1' : (1 : Int) ≤ c.2 := h1
        have h2' : c.2 < 3 := h2
        rcases (by omega : c.2 = 1 ∨ c.2 = 2) with e | e
        · rw [e] at h3; exact .inl (Prod.ext h3 e)
        · rw [e] at h3; exact .inr (Prod.ext h3 e)
def oneH : Hp := ⟨3, [⟨1, (0, 1), [0], []⟩], 2, [0, 0, 0, 0], [(2, 1), (4, 2)]⟩
theorem one_is : doH (newH 3) ⟨1, 0, 0, 1, 0, 0, 0⟩ = (oneH, 0, 1) := by
  rw [doH_right (right_newH (by omega)), doneH_alloc rfl]
  exact alloc_gives (N := 1) (by decide) (by decide) (by decide) (by decide) took_c
set_option maxRecDepth 100000 in
set_option maxHeartbeats 2000000 in
theorem grows_any (w : World) (hT : Tab w) : Calls Tryz.prog 27 #[] w (Tells w (.bool true)) := by
  have HT := Lib.hid hT
  clear hT
  go_enter Tryz.func27, Tryz.ntmps27
  go_upto_region 2 with (go_at_call 25; refine (new3 _).mono ?_; rintro e w1 ⟨A, n, c, F, d, rfl, o1, b1⟩)
  obtain ⟨p, W, hW, hp, K, bw⟩ := box_heap w1 (.int .i64 3) (.slice A n c) (.int .i64 1) (.int .i64 0) (.int .i64 0) (.int .i64 0) (.int .i64 0) (.slice F 1 d)
  rw [hW, ← hp]
  have B0 := Lib.hid (b1.trans (bw.mono b1.size))
  have S := do_heap ⟨A, n, c, F, 1, d⟩ (newH 3) ⟨1, 0, 0, 1, 0, 0, 0⟩ W (o1.rd.below bw) ⟨by decide, by decide, by decide⟩ (HT.out.below B0.out)
  rw [one_is] at S
  have hv : hval (newH 3) ⟨A, n, c, F, 1, d⟩ = .agg #[.int .i64 3, .slice A n c, .int .i64 1, .int .i64 0, .int .i64 0, .int .i64 0, .int .i64 0, .slice F 1 d] := rfl
  rw [hv] at S
  simp only [opv, opcs] at S
  obtain ⟨c0, c1, c2, c3, c4, c5, c6, c7⟩ := K.eight
  clear hW hp bw o1 b1 hv
  go_upto_region 3 with (go_at_call 13; refine S.mono ?_; rintro e w3 ⟨⟨A3, n3, c3', F3, m3, d3⟩, os3, rfl, o3, b3⟩; simp only [hval, hcs])
  obtain ⟨p3', W3, hW3, hp3, Kx3, Kr3, bw3⟩ := box_two w3 (.int .i64 oneH.od) (.slice A3 n3 c3') (.int .i64 oneH.nx) (.int .i64 (tget oneH 0)) (.int .i64 (tget oneH 1)) (.int .i64 (tget oneH 2)) (.int .i64 (tget oneH 3)) (.slice F3 m3 d3) (.int .i64 0) (.int .i64 1)
  rw [hW3, ← hp3]
  have bb3 := b3.trans (bw3.mono b3.size)
  have B3 := Lib.hid (B0.out.trans (bb3.mono B0.out.size))
  have R3 := o3.rd.below bw3
  have hn3 : n3 = 1 := by have h1 := R3.obs.len; exact h1.symm
  subst hn3
  obtain ⟨b', off, x, rfl, hbl, hx, A1, n1, e1, B1, m1, d1, h0, h1, h2, _, _, _, _⟩ := R3.obs.get (j := 0) (by simp)
  obtain rfl : x = ⟨1, (0, 1), [0], []⟩ := by
    have : oneH.obs[0]? = some (⟨1, (0, 1), [0], []⟩ : Ob) := rfl
    rw [this] at hx
    injection hx with hx
    exact hx.symm
  simp only [Nat.zero_mul, Nat.add_zero] at h0 h1 h2
  have y1 := Kx3.cell 1
  have r1 := Kr3.cell 1
  simp only [List.getElem?_cons_succ, List.getElem?_cons_zero] at y1 r1
  have SW := fun W => words_any 1 W
  rw [show wordsI 1 = 2 by decide] at SW
  clear S hW3 hp3 Kx3 Kr3 bw3 b3 bb3 R3 o3 c0 c1 c2 c3 c4 c5 c6 c7 hx
  go_wp2_with (go_at_call 24; refine (SW _).mono ?_; rintro e w5 ⟨rfl, rfl⟩)
  go_ret
  exact ⟨rfl, B3.out⟩
end Go.Proofs.YtkbggbgnnllmjaaGreatDoor
