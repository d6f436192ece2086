/-
  The law HeapChecks, walked.
  A copy of a heap that the call's methods work on: words for it, and the contract of what makes it.
-/
import Derived.Test.YtlnmmklpccppmaaGreatDoorSg21
import Derived.Test.YtlnmmklpccppmaaGreatDoorSg22
import Derived.Test.YtlnmmklpccppmaaGreatDoorSg18
import Derived.Test.YtlnmmklpccppmaaGreatDoorSg20
namespace Go.Proofs.YtlnmmklpccppmaaGreatDoor
open Go.RowKit
theorem Whole.eight {w : World} {g : Nat} {t : TypeId} {a0 a1 a2 a3 a4 a5 a6 a7 : Value} (h : Whole w g t [a0, a1, a2, a3, a4, a5, a6, a7]) :
    w.cell? ⟨g, 0, none⟩ = some a0 ∧ w.cell? ⟨g, 1, none⟩ = some a1 ∧ w.cell? ⟨g, 2, none⟩ = some a2 ∧ w.cell? ⟨g, 3, none⟩ = some a3 ∧ w.cell? ⟨g, 4, none⟩ = some a4 ∧ w.cell? ⟨g, 5, none⟩ = some a5 ∧ w.cell? ⟨g, 6, none⟩ = some a6 ∧ w.cell? ⟨g, 7, none⟩ = some a7 :=
  ⟨h.cell 0, h.cell 1, h.cell 2, h.cell 3, h.cell 4, h.cell 5, h.cell 6, h.cell 7⟩
end Go.Proofs.YtlnmmklpccppmaaGreatDoor
namespace Go.Proofs.YtlnmmklpccppmaaGreatDoor
open Go.RowKit
/-- A heap in a box of the call's own, its rows too. -/
structure CpAt (w : World) (base g : Nat) (s : HSl) (os : List (Ob × OSl)) (H : Hp) : Prop where
  box : Whole w g 114 (hcs H s)
  own : OwnHp w base s os H
  ge : base ≤ g
theorem CpAt.below {w w' : World} {base g : Nat} {s : HSl} {os : List (Ob × OSl)} {H : Hp} (h : CpAt w base g s os H) (b : Below w.heap.size w w') : CpAt w' base g s os H := ⟨h.box.below b, h.own.below b, h.ge⟩
theorem ocs_ws : ∀ {os : List (Ob × OSl)} {i : Nat} {p : Ob × OSl} (u : Value), os[i]? = some p → (ocs os).set (i * 5 + 3) u = ocs (os.set i (p.1, ⟨u, p.2.lv⟩))
  | [], i, p, u, h => by simp at h
  | q :: t, 0, p, u, h => by
    simp at h
    subst h
    rfl
  | q :: t, i + 1, p, u, h => by
    have h1 : ∀ r : List (Ob × OSl), ocs (q :: r) = oc q ++ ocs r := fun r => by simp [ocs]
    have hq : (oc q).length = 5 := rfl
    rw [List.set_cons_succ, h1, h1, ← ocs_ws u (by simpa using h), List.set_append_right _ _ (by omega), hq, show (i + 1) * 5 + 3 - 5 = i * 5 + 3 by omega]
theorem ocs_ls : ∀ {os : List (Ob × OSl)} {i : Nat} {p : Ob × OSl} (u : Value), os[i]? = some p → (ocs os).set (i * 5 + 4) u = ocs (os.set i (p.1, ⟨p.2.wv, u⟩))
  | [], i, p, u, h => by simp at h
  | q :: t, 0, p, u, h => by
    simp at h
    subst h
    rfl
  | q :: t, i + 1, p, u, h => by
    have h1 : ∀ r : List (Ob × OSl), ocs (q :: r) = oc q ++ ocs r := fun r => by simp [ocs]
    have hq : (oc q).length = 5 := rfl
    rw [List.set_cons_succ, h1, h1, ← ocs_ls u (by simpa using h), List.set_append_right _ _ (by omega), hq, show (i + 1) * 5 + 4 - 5 = i * 5 + 4 by omega]
/-- Memory while a copy is made: rows of the first objects are the call's own. -/
structure CcMem (w : World) (H : Hp) (cs : List Value) (A' : Option Addr) (n c' : Nat) (F' : Option Addr) (m' d' : Nat) (os0 os1 : List (Ob × OSl)) (W : World) : Prop where
  kh : Whole W w.heap.size 26 cs
  kc : Whole W (w.heap.size + 1) 114 [.int .i64 H.od, .slice A' n c', .int .i64 H.nx, .int .i64 (tget H 0), .int .i64 (tget H 1), .int .i64 (tget H 2), .int .i64 (tget H 3), .slice F' m' d']
  row : W.ownsRow (w.heap.size + 2) 68 5 (.slice A' n c') n (ocs (os1 ++ os0.drop os1.length))
  ints : ∀ p ∈ os1, OwnV 3 W (w.heap.size + 2) p.2.wv (ivs p.1.ws) ∧ OwnV 3 W (w.heap.size + 2) p.2.lv (ivs p.1.ls)
  apart : (blocksOf os1).Nodup
  fr : OwnB 65 W (w.heap.size + 2) (.slice F' m' d') H.fr
  bel : Below w.heap.size w W
section
variable {w W W' : World} {H : Hp} {cs : List Value} {A' F' : Option Addr} {n c' m' d' : Nat} {os0 os1 : List (Ob × OSl)}
theorem CcMem.below (h : CcMem w H cs A' n c' F' m' d' os0 os1 W) (b : Below W.heap.size W W') : CcMem w H cs A' n c' F' m' d' os0 os1 W' :=
  ⟨h.kh.below b, h.kc.below b, row_keep h.row fun k hk => b.block k (World.ownsRow.lt h.row k hk).2, fun p hp => ⟨(h.ints p hp).1.below b, (h.ints p hp).2.below b⟩, h.apart, h.fr.below b, h.bel.trans (b.mono h.bel.size)⟩
/-- The next object's rows are stored. -/
theorem CcMem.step {g : Nat} (h : CcMem w H cs (some ⟨g, 0, none⟩) n c' F' m' d' os0 os1 W) {p0 : Ob × OSl} (hp : os0[os1.length]? = some p0) {v1 v2 : Value} {W1 W2 : World}
    (b1 : Below W.heap.size W W1) (o1 : OwnV 3 W1 W.heap.size v1 (ivs p0.1.ws)) (b2 : Below W1.heap.size (W1.setCell ⟨g, os1.length * 5 + 3, none⟩ v1) W2) (o2 : OwnV 3 W2 W1.heap.size v2 (ivs p0.1.ls)) :
    CcMem w H cs (some ⟨g, 0, none⟩) n c' F' m' d' os0 (os1 ++ [(p0.1, ⟨v1, v2⟩)]) (W2.setCell ⟨g, os1.length * 5 + 4, none⟩ v2) := by
  have M1 := h.below b1
  have hg1 : w.heap.size + 2 ≤ g := (World.ownsRow.lt h.row g rfl).1
  have hgW : g < W.heap.size := (World.ownsRow.lt h.row g rfl).2
  have hgW1 : g < W1.heap.size := Nat.lt_of_lt_of_le hgW b1.size
  have hsz : (W1.setCell ⟨g, os1.length * 5 + 3, none⟩ v1).heap.size = W1.heap.size := by simp [World.setCell]
  have b2' : Below (W1.setCell ⟨g, os1.length * 5 + 3, none⟩ v1).heap.size (W1.setCell ⟨g, os1.length * 5 + 3, none⟩ v1) W2 := by rw [hsz]; exact b2
  have G : W1.grownBy (W2.setCell ⟨g, os1.length * 5 + 4, none⟩ v2) (some g) := grown_trans (grown_set _ _ _ _) (grown_trans (grown_below b2' _) (grown_set _ _ _ _))
  obtain ⟨cur, hgt⟩ := row_type M1.row (k := g) rfl
  have hneI : ∀ {v : Value} {l : List Value} {base : Nat}, OwnV 3 W1 base v l → ∀ k, v.ownBlock = some k → some k ≠ some g := fun ho k hk e => by
    obtain ⟨cur2, h2⟩ := row_type ho hk
    injection e with e
    rw [e, hgt] at h2
    injection h2 with h2
    injection h2 with _ ht
    exact absurd ht (by decide)
  have keepI : ∀ {v : Value} {l : List Value} {base : Nat}, OwnV 3 W1 base v l → OwnV 3 (W2.setCell ⟨g, os1.length * 5 + 4, none⟩ v2) base v l := fun ho => ho.keep fun k hk => G.block k (ho.lt k hk).2 (hneI ho k hk)
  have hk1 := o1.lt
  have hk2 := o2.lt
  have hko : ∀ k ∈ blocksOf os1, k < W.heap.size := fun k hk => by
    obtain ⟨p, hp, e⟩ := mem_blocks.1 hk
    rcases e with e | e
    · exact ((h.ints p hp).1.lt k e).2
    · exact ((h.ints p hp).2.lt k e).2
  refine ⟨M1.kh.grown G (by omega), M1.kc.grown G (by omega), ?_, fun q hq => ?_, ?_, M1.fr.grown G fun k hk e => ?_, below_grown M1.bel G M1.bel.size (by omega)⟩
  · have hget : (os1 ++ os0.drop os1.length)[os1.length]? = some p0 := by
      rw [List.getElem?_append_right (Nat.le_refl _), Nat.sub_self, List.getElem?_drop, Nat.add_zero]; exact hp
    have hr1 := (World.ownsRow.stored M1.row (os1.length * 5 + 3) v1).1
    rw [ocs_ws v1 hget] at hr1
    have hr2 := row_keep hr1 (w' := W2) fun k hk => b2'.block k (World.ownsRow.lt hr1 k hk).2
    have hr3 := (World.ownsRow.stored hr2 (os1.length * 5 + 4) v2).1
    have hlt : os1.length < (os1 ++ os0.drop os1.length).length := (List.getElem?_eq_some_iff.1 hget).1
    rw [ocs_ls (p := (p0.1, ⟨v1, p0.2.lv⟩)) v2 (by rw [List.getElem?_set_self hlt]), List.set_set] at hr3
    simp only at hr3
    rw [List.set_append_right _ _ (Nat.le_refl _), Nat.sub_self] at hr3
    have hd : os0.drop os1.length = p0 :: os0.drop (os1.length + 1) := by
      obtain ⟨q1, q2⟩ := List.getElem?_eq_some_iff.1 hp
      rw [List.drop_eq_getElem_cons q1, q2]
    rw [hd, List.set_cons_zero] at hr3
    rw [List.length_append, List.length_singleton, List.append_assoc]
    exact hr3
  · rcases List.mem_append.1 hq with e | e
    · exact ⟨keepI (M1.ints q e).1, keepI (M1.ints q e).2⟩
    · rw [List.mem_singleton.1 e]
      have hw2 := h.bel.size
      refine ⟨(keepI o1).mono (by omega), (o2.mono (by have := b1.size; omega)).keep fun k hk => ?_⟩
      have := (hk2 k hk).1
      exact (grown_set W2 g (os1.length * 5 + 4) v2).block k (hk2 k hk).2 fun e => by injection e with e; omega
  · rw [blocksOf_snoc, List.nodup_append]
    refine ⟨h.apart, ?_, fun a ha b hb e => ?_⟩
    · unfold twoB
      exact nodup_two fun i j hi hj => by have := (hk1 i hi).2; have := (hk2 j hj).1; omega
    · have h1 := hko a ha
      have h2 := b1.size
      rcases mem_two.1 hb with e2 | e2
      · have := (hk1 b e2).1; omega
      · have := (hk2 b e2).1; omega
  · obtain ⟨cur2, h2⟩ := row_type M1.fr hk
    injection e with e
    rw [e, hgt] at h2
    injection h2 with h2
    injection h2 with _ ht
    exact absurd ht (by decide)
end
theorem row_shape {U : TypeId} {w : World} {base sz n m : Nat} {v : Value} {xs : List Value} (h : w.ownsRow base U sz v m xs) (hm : m = n) : ∃ A c, v = .slice A n c := by
  subst hm
  rcases h.2 with ⟨rfl, hn⟩ | ⟨g, cap, cur, rfl, _⟩
  · exact ⟨none, 0, by rw [hn]⟩
  · exact ⟨_, cap, rfl⟩
end Go.Proofs.YtlnmmklpccppmaaGreatDoor
