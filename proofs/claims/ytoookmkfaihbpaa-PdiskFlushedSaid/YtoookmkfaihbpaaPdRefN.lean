/-
  The document's disk: New. A contract, as in PdRef.
-/
import Derived.Test.YtoookmkfaihbpaaPdRef3
import Derived.Deep.RegionLaw
namespace Go.Proofs.Ytoookmkfaihbpaa
open Go.RowKit

theorem Try.infoStr : (Try.prog.info? 9).map (fun i => (i.zero, i.size, i.bytes)) = some (some (.string ByteArray.empty), 1, 16) := by kernel_rfl
theorem Try.infoBool : (Try.prog.info? 4).map (fun i => (i.zero, i.size, i.bytes)) = some (some (.bool false), 1, 1) := by kernel_rfl
/-- append(v, x), x in a block of its own: where it lies, too. -/
theorem run_app_oneW {P : Program} {w : World} (base : Nat) (t ty U : TypeId) (ht : P.underlying t = some (.slice U)) {z : Value} {by_ : Nat} (hinfo : (P.info? U).map (fun i => (i.zero, i.size, i.bytes)) = some (some z, 1, by_)) (hby : by_ ≤ 16) (hz : z.cells.size = 1)
    (v : Value) (l : List Value) (hown : OwnV U w base v l) (u : Value) (hu : u.oneCell' = true) (hle : l.length + 1 ≤ 100000) (hbase : base ≤ w.heap.size) :
    ∃ v' w', (Builtin.append_ #[t, t] ty #[v, .slice (some ⟨w.heap.size, 0, none⟩) 1 1]).run P (w.alloc (.cells #[u] U)) = .ok v' w' ∧ OwnV U w' base v' (l ++ [u]) ∧ (w.alloc (.cells #[u] U)).grownBy w' v.ownBlock ∧ (v'.ownBlock = v.ownBlock ∨ v'.ownBlock = some (w.heap.size + 1)) := by
  obtain ⟨i0, hi, hz0, hz1, hz2⟩ := info_parts hinfo
  have ho : OwnV U (w.alloc (.cells #[u] U)) base v l := hown.below ((Below.refl _ _).alloc (Nat.le_refl _) _)
  obtain ⟨v', w', h1, h2, h3, _, h5⟩ := run_append_own_at (P := P) (w.alloc (.cells #[u] U)) base t ty U i0 z 1 by_ ht hi hz0 hz1 hz2 hz (by omega) v l.length l ho ⟨w.heap.size, 0, none⟩ 1 1 [u] (by simp)
    (fun j x hj => by
      have hj0 : j = 0 := by
        have := (List.getElem?_eq_some_iff.1 hj).1
        simp at this
        exact this
      subst hj0
      simp at hj
      subst hj
      rw [add_plain]
      have := (Whole.new w #[u] U).cell 0
      rw [Nat.zero_add, this]
      rfl) (by simpa using hu) (by simp only [maxLen]; omega) (by
        have : (l.length + 1) * by_ ≤ 100000 * 16 := Nat.mul_le_mul hle hby
        omega) (by simp; omega)
  refine ⟨v', w', h1, ?_, h3, by simpa using h5⟩
  unfold OwnV
  rw [List.length_append]
  exact h2

def svs (l : List ByteArray) : List Value := l.map .string
def nwcs (v1 v2 v3 : Value) : List Value := [v1, v2, v3, .bool false, .bool false, .int .i64 0]
/-- Rows that grow: of strings, of strings, of truths; each in a block of its own. -/
structure NwAt (w : World) (base pm : Nat) (v1 v2 v3 : Value) (x1 x2 : List ByteArray) (x3 : List Bool) : Prop where
  ptr : Whole w pm 56 (nwcs v1 v2 v3)
  pb : pm < base
  o1 : OwnV 9 w base v1 (svs x1)
  o2 : OwnV 9 w base v2 (svs x2)
  o3 : OwnV 4 w base v3 (tvs x3)
  ap : ∀ g, v1.ownBlock = some g → v2.ownBlock ≠ some g
def NwRel (w : World) (n : Nat) (iv : Value) (wr : World) : Prop :=
  ∃ (k : Nat) (v1 v2 v3 : Value) (x1 x2 : List ByteArray) (x3 : List Bool), k ≤ n ∧ iv = .int .i64 (k : Int) ∧ x1.length = k ∧ x2.length = k ∧ x3.length = k ∧ NwAt wr (w.heap.size + 1) w.heap.size v1 v2 v3 x1 x2 x3 ∧ Below w.heap.size w wr
section
variable {w w' : World} {base pm : Nat} {v1 v2 v3 : Value} {x1 x2 : List ByteArray} {x3 : List Bool}
theorem NwAt.below (h : NwAt w base pm v1 v2 v3 x1 x2 x3) (k : Below w.heap.size w w') : NwAt w' base pm v1 v2 v3 x1 x2 x3 := ⟨h.ptr.below k, h.pb, h.o1.below k, h.o2.below k, h.o3.below k, h.ap⟩
theorem NwAt.drew (h : NwAt w base pm v1 v2 v3 x1 x2 x3) : NwAt w.drew base pm v1 v2 v3 x1 x2 x3 := h.below (Below.refl _ _).drew
theorem own_apart {U V : TypeId} {a b : Value} {l m : List Value} (h : OwnV U w base a l) (k : OwnV V w base b m) (hne : U ≠ V) : ∀ g, a.ownBlock = some g → b.ownBlock ≠ some g := fun g hg hb => by
  rcases h.2 with ⟨rfl, _⟩ | ⟨g1, cap, cur, rfl, _, hh, _⟩
  · cases hg
  · rcases k.2 with ⟨rfl, _⟩ | ⟨g2, cap2, cur2, rfl, _, hh2, _⟩
    · cases hb
    · have e1 : g1 = g := by simpa [Value.ownBlock] using hg
      have e2 : g2 = g := by simpa [Value.ownBlock] using hb
      subst e1
      subst e2
      rw [hh] at hh2
      injection hh2 with hh2
      injection hh2 with _ ht
      exact hne ht
/-- A string more in the first row. -/
theorem NwAt.app1 (h : NwAt w base pm v1 v2 v3 x1 x2 x3) (s : ByteArray) (hl : x1.length ≤ 5000) (hb : base ≤ w.heap.size) (ty : TypeId) :
    ∃ v' w', (Builtin.append_ #[54, 54] ty #[v1, .slice (some ⟨w.heap.size, 0, none⟩) 1 1]).run Try.prog (w.alloc (.cells #[.string s] 9)) = .ok v' w' ∧
      w'.cell? ⟨pm, 0, none⟩ = some v1 ∧ w'.frozen? ⟨pm, 0, none⟩ = false ∧ NwAt (w'.setCell ⟨pm, 0, none⟩ v') base pm v' v2 v3 (x1 ++ [s]) x2 x3 ∧ Below pm w (w'.setCell ⟨pm, 0, none⟩ v') ∧ ∃ A c, v' = .slice A (x1.length + 1) c := by
  obtain ⟨v', w1, h1, h2, h3, h4⟩ := run_app_oneW (P := Try.prog) base 54 ty 9 Try.underlying54 Try.infoStr (by omega) rfl v1 (svs x1) h.o1 (.string s) rfl (by simp [svs]; omega) hb
  have hlt := h.ptr.lt
  have hp1 : Whole w1 pm 56 (nwcs v1 v2 v3) := (h.ptr.alloc _).keep (h3.block pm (by simp; omega) fun e => by
    have := (h.o1.lt pm e.symm).1
    have := h.pb
    omega)
  have hB : Below pm w w1 := ((Below.refl pm w).alloc (by omega) _).grown h3 (by simp; omega) fun k hk => by
    have := (h.o1.lt k hk).1
    have := h.pb
    omega
  have hfar : ∀ g, v'.ownBlock = some g → v2.ownBlock ≠ some g ∧ v3.ownBlock ≠ some g := fun g hg => by
    rcases h4 with e | e
    · rw [e] at hg
      exact ⟨h.ap g hg, own_apart h.o1 h.o3 (by decide) g hg⟩
    · rw [e] at hg
      injection hg with hg
      exact ⟨fun e2 => by have := (h.o2.lt g e2).2; omega, fun e2 => by have := (h.o3.lt g e2).2; omega⟩
  have hkeep : ∀ (U : TypeId) (b : Value) (m : List Value), OwnV U w base b m → (∀ g, v1.ownBlock = some g → b.ownBlock ≠ some g) → OwnV U (w1.setCell ⟨pm, 0, none⟩ v') base b m := fun U b m hm ha =>
    hm.keep fun k hk => by
      rw [heap_setCell_other w1 ⟨pm, 0, none⟩ k v' (by have := (hm.lt k hk).1; have := h.pb; show k ≠ pm; omega), h3.block k (by simp; have := (hm.lt k hk).2; omega) (fun e => ha k e.symm hk), Below.heap_alloc _ _ k (hm.lt k hk).2]
  have ho' : OwnV 9 (w1.setCell ⟨pm, 0, none⟩ v') base v' (svs (x1 ++ [s])) := by
    have e1 : svs (x1 ++ [s]) = svs x1 ++ [.string s] := by simp [svs]
    rw [e1]
    exact h2.keep fun k hk => heap_setCell_other w1 ⟨pm, 0, none⟩ k v' (by have := (h2.lt k hk).1; have := h.pb; show k ≠ pm; omega)
  obtain ⟨A, c, hv, _⟩ := h2.shape (n := x1.length + 1) (by simp [svs])
  exact ⟨v', w1, h1, hp1.cell 0, hp1.free 0, ⟨hp1.set 0 v', h.pb, ho', hkeep _ _ _ h.o2 h.ap, hkeep _ _ _ h.o3 (own_apart h.o1 h.o3 (by decide)), fun g hg => (hfar g hg).1⟩, below_grown hB (grown_set w1 pm 0 v') (by have := hB.size; omega) (Nat.le_refl _), A, c, hv⟩
theorem NwAt.app2 (h : NwAt w base pm v1 v2 v3 x1 x2 x3) (s : ByteArray) (hl : x2.length ≤ 5000) (hb : base ≤ w.heap.size) (ty : TypeId) :
    ∃ v' w', (Builtin.append_ #[54, 54] ty #[v2, .slice (some ⟨w.heap.size, 0, none⟩) 1 1]).run Try.prog (w.alloc (.cells #[.string s] 9)) = .ok v' w' ∧
      w'.cell? ⟨pm, 1, none⟩ = some v2 ∧ w'.frozen? ⟨pm, 1, none⟩ = false ∧ NwAt (w'.setCell ⟨pm, 1, none⟩ v') base pm v1 v' v3 x1 (x2 ++ [s]) x3 ∧ Below pm w (w'.setCell ⟨pm, 1, none⟩ v') ∧ ∃ A c, v' = .slice A (x2.length + 1) c := by
  obtain ⟨v', w1, h1, h2, h3, h4⟩ := run_app_oneW (P := Try.prog) base 54 ty 9 Try.underlying54 Try.infoStr (by omega) rfl v2 (svs x2) h.o2 (.string s) rfl (by simp [svs]; omega) hb
  have hlt := h.ptr.lt
  have hp1 : Whole w1 pm 56 (nwcs v1 v2 v3) := (h.ptr.alloc _).keep (h3.block pm (by simp; omega) fun e => by
    have := (h.o2.lt pm e.symm).1
    have := h.pb
    omega)
  have hB : Below pm w w1 := ((Below.refl pm w).alloc (by omega) _).grown h3 (by simp; omega) fun k hk => by
    have := (h.o2.lt k hk).1
    have := h.pb
    omega
  have hap' : ∀ g, v2.ownBlock = some g → v1.ownBlock ≠ some g := fun g hg e => h.ap g e hg
  have hkeep : ∀ (U : TypeId) (b : Value) (m : List Value), OwnV U w base b m → (∀ g, v2.ownBlock = some g → b.ownBlock ≠ some g) → OwnV U (w1.setCell ⟨pm, 1, none⟩ v') base b m := fun U b m hm ha =>
    hm.keep fun k hk => by
      rw [heap_setCell_other w1 ⟨pm, 1, none⟩ k v' (by have := (hm.lt k hk).1; have := h.pb; show k ≠ pm; omega), h3.block k (by simp; have := (hm.lt k hk).2; omega) (fun e => ha k e.symm hk), Below.heap_alloc _ _ k (hm.lt k hk).2]
  have ho' : OwnV 9 (w1.setCell ⟨pm, 1, none⟩ v') base v' (svs (x2 ++ [s])) := by
    have e1 : svs (x2 ++ [s]) = svs x2 ++ [.string s] := by simp [svs]
    rw [e1]
    exact h2.keep fun k hk => heap_setCell_other w1 ⟨pm, 1, none⟩ k v' (by have := (h2.lt k hk).1; have := h.pb; show k ≠ pm; omega)
  obtain ⟨A, c, hv, _⟩ := h2.shape (n := x2.length + 1) (by simp [svs])
  exact ⟨v', w1, h1, hp1.cell 1, hp1.free 1, ⟨hp1.set 1 v', h.pb, hkeep _ _ _ h.o1 hap', ho', hkeep _ _ _ h.o3 (own_apart h.o2 h.o3 (by decide)), fun g hg e => by
    rcases h4 with q | q
    · rw [q] at e
      exact h.ap g hg e
    · rw [q] at e
      injection e with e
      have := (h.o1.lt g hg).2
      omega⟩, below_grown hB (grown_set w1 pm 1 v') (by have := hB.size; omega) (Nat.le_refl _), A, c, hv⟩
theorem NwAt.app3 (h : NwAt w base pm v1 v2 v3 x1 x2 x3) (hl : x3.length ≤ 5000) (hb : base ≤ w.heap.size) (ty : TypeId) :
    ∃ v' w', (Builtin.append_ #[24, 24] ty #[v3, .slice (some ⟨w.heap.size, 0, none⟩) 1 1]).run Try.prog (w.alloc (.cells #[.bool false] 4)) = .ok v' w' ∧
      w'.cell? ⟨pm, 2, none⟩ = some v3 ∧ w'.frozen? ⟨pm, 2, none⟩ = false ∧ NwAt (w'.setCell ⟨pm, 2, none⟩ v') base pm v1 v2 v' x1 x2 (x3 ++ [false]) ∧ Below pm w (w'.setCell ⟨pm, 2, none⟩ v') ∧ ∃ A c, v' = .slice A (x3.length + 1) c := by
  obtain ⟨v', w1, h1, h2, h3, h4⟩ := run_app_oneW (P := Try.prog) base 24 ty 4 Try.underlying24 Try.infoBool (by omega) rfl v3 (tvs x3) h.o3 (.bool false) rfl (by simp [tvs]; omega) hb
  have hlt := h.ptr.lt
  have hp1 : Whole w1 pm 56 (nwcs v1 v2 v3) := (h.ptr.alloc _).keep (h3.block pm (by simp; omega) fun e => by
    have := (h.o3.lt pm e.symm).1
    have := h.pb
    omega)
  have hB : Below pm w w1 := ((Below.refl pm w).alloc (by omega) _).grown h3 (by simp; omega) fun k hk => by
    have := (h.o3.lt k hk).1
    have := h.pb
    omega
  have hkeep : ∀ (U : TypeId) (b : Value) (m : List Value), OwnV U w base b m → (∀ g, v3.ownBlock = some g → b.ownBlock ≠ some g) → OwnV U (w1.setCell ⟨pm, 2, none⟩ v') base b m := fun U b m hm ha =>
    hm.keep fun k hk => by
      rw [heap_setCell_other w1 ⟨pm, 2, none⟩ k v' (by have := (hm.lt k hk).1; have := h.pb; show k ≠ pm; omega), h3.block k (by simp; have := (hm.lt k hk).2; omega) (fun e => ha k e.symm hk), Below.heap_alloc _ _ k (hm.lt k hk).2]
  have ho' : OwnV 4 (w1.setCell ⟨pm, 2, none⟩ v') base v' (tvs (x3 ++ [false])) := by
    have e1 : tvs (x3 ++ [false]) = tvs x3 ++ [.bool false] := by simp [tvs]
    rw [e1]
    exact h2.keep fun k hk => heap_setCell_other w1 ⟨pm, 2, none⟩ k v' (by have := (h2.lt k hk).1; have := h.pb; show k ≠ pm; omega)
  obtain ⟨A, c, hv, _⟩ := h2.shape (n := x3.length + 1) (by simp [tvs])
  exact ⟨v', w1, h1, hp1.cell 2, hp1.free 2, ⟨hp1.set 2 v', h.pb, hkeep _ _ _ h.o1 (own_apart h.o3 h.o1 (by decide)), hkeep _ _ _ h.o2 (own_apart h.o3 h.o2 (by decide)), ho', h.ap⟩, below_grown hB (grown_set w1 pm 2 v') (by have := hB.size; omega) (Nat.le_refl _), A, c, hv⟩
end
theorem own_str {w : World} {base : Nat} {A : Option Addr} {k c : Nat} {x : List ByteArray} (h : OwnV 9 w base (.slice A k c) (svs x)) (hk : x.length = k) (h0 : 0 < k) : ∃ g, A = some ⟨g, 0, none⟩ ∧ base ≤ g ∧ StrRow w g k := by
  rcases h.2 with ⟨_, he⟩ | ⟨g, cap, cur, hv, hg, hh, _, _, _, ht⟩
  · simp [svs] at he
    subst he
    simp at hk
    omega
  · injection hv with e1 _ _
    refine ⟨g, e1, hg, cur.toList, by unfold Whole; simpa using hh, fun j hj => ?_⟩
    have hj2 : j < x.length := by omega
    refine ⟨x[j], ?_⟩
    have h1 : (cur.toList.take ((svs x).length * 1))[j]? = (svs x)[j]? := by rw [ht]
    rw [List.getElem?_take, if_pos (by simp [svs]; omega)] at h1
    rw [h1]
    simp [svs, List.getElem?_eq_getElem hj2]
theorem own_tru {w : World} {base : Nat} {A : Option Addr} {k c : Nat} {x : List Bool} (h : OwnV 4 w base (.slice A k c) (tvs x)) (hk : x.length = k) (h0 : 0 < k) : ∃ g, A = some ⟨g, 0, none⟩ ∧ base ≤ g ∧ TruRow w g k := by
  rcases h.2 with ⟨_, he⟩ | ⟨g, cap, cur, hv, hg, hh, _, _, _, ht⟩
  · simp [tvs] at he
    subst he
    simp at hk
    omega
  · injection hv with e1 _ _
    refine ⟨g, e1, hg, cur.toList, by unfold Whole; simpa using hh, fun j hj => ?_⟩
    have hj2 : j < x.length := by omega
    refine ⟨x[j], ?_⟩
    have h1 : (cur.toList.take ((tvs x).length * 1))[j]? = (tvs x)[j]? := by rw [ht]
    rw [List.getElem?_take, if_pos (by simp [tvs]; omega)] at h1
    rw [h1]
    simp [tvs, List.getElem?_eq_getElem hj2]
def MNew (w : World) (n : Nat) (e : Ending) (w' : World) : Prop :=
  ∃ p g1 g2 g3, e = .returned (.tuple #[.pointer (some ⟨p, 0, none⟩), .int .i64 0]) ∧ MAt w' n p g1 g2 g3 ∧ (∀ k, ms p g1 g2 g3 k → w.heap.size ≤ k) ∧ Below w.heap.size w w'
set_option maxRecDepth 20000 in
set_option maxHeartbeats 2000000 in
theorem mnew_any {n : Nat} (h0 : 0 < n) (hn : n ≤ 4096) (a : Int) (ha : a = (n : Int)) (w : World) : Calls Try.prog 10 #[.int .i64 a] w (MNew w n) := by
  subst ha
  have hs : NwAt (w.alloc (.cells (nwcs (.slice none 0 0) (.slice none 0 0) (.slice none 0 0)).toArray 56)) (w.heap.size + 1) w.heap.size (.slice none 0 0) (.slice none 0 0) (.slice none 0 0) [] [] [] :=
    ⟨Whole.new w (nwcs (.slice none 0 0) (.slice none 0 0) (.slice none 0 0)).toArray 56, by omega, OwnV.nil, OwnV.nil, OwnV.nil, fun g hg => by cases hg⟩
  have hB : Below w.heap.size w (w.alloc (.cells (nwcs (.slice none 0 0) (.slice none 0 0) (.slice none 0 0)).toArray 56)) := (Below.refl _ _).alloc (Nat.le_refl _) _
  unfold nwcs at hB
  have HS := Lib.hid hs
  have HB := Lib.hid hB
  clear hs hB
  have g1 : ¬ (n : Int) < 1 := by omega
  have g2 : ¬ 4096 < (n : Int) := by omega
  go_enter Try.func10, Try.ntmps10
  go_wp2
  go_loopw [5] (NwRel w n) (fun i _ => n - (intOf i).toNat)
  case atStart => exact ⟨0, _, _, _, [], [], [], Nat.zero_le _, rfl, rfl, rfl, rfl, HS.out, HB.out⟩
  case round =>
    clear HS HB
    obtain ⟨k, v1, v2, v3, x1, x2, x3, hk, rfl, l1, l2, l3, hN, hB⟩ := hrel
    obtain ⟨A1, c1, rfl, _⟩ := hN.o1.shape (n := k) (by simp [svs, l1])
    obtain ⟨A2, c2, rfl, _⟩ := hN.o2.shape (n := k) (by simp [svs, l2])
    obtain ⟨A3, c3, rfl, _⟩ := hN.o3.shape (n := k) (by simp [tvs, l3])
    have HN := Lib.hid hN
    have HB := Lib.hid hB
    have L1 := Lib.hid l1
    have L2 := Lib.hid l2
    have L3 := Lib.hid l3
    clear hN hB l1 l2 l3
    by_cases hlt : k < n
    · have hlt' : (k : Int) < (n : Int) := by omega
      go_upto_region 7 with (fail)
      have hf := full_any (A := none) (n := 0) (c := 0) (b := []) (w := wr.drew) Rd.nil (by omega)
      obtain ⟨s, hs⟩ : ∃ s, s = ByteArray.mk (full []).toArray := ⟨_, rfl⟩
      unfold FullPost at hf
      rw [← hs] at hf
      clear hs
      have z0 : wr.drew.cell? ⟨w.heap.size, 0, none⟩ = some (.slice A1 k c1) := HN.out.ptr.cell 0
      go_region_law (first | (refine step_append_run7 hap rfl (.tmp 23) (.tmp 25) rfl rfl rfl rfl ?_) | (rw [if_pos (by simp [Region.wanted])]; unfold Oper.wp; go_simp; refine hf.mono ?_; rintro e W1 ⟨rfl, hb1⟩; have N1 := Lib.hid (HN.out.drew.below hb1); obtain ⟨v', W2, hap, d0, d1, hN2, hB2, A', c', rfl⟩ := N1.out.app1 s (by rw [L1.out]; omega) (by have := HB.out.size; have := hb1.size; have := HN.out.ptr.lt; have e : wr.drew.heap.size = wr.heap.size := rfl; omega) 54; have y0 := N1.out.ptr.cell 0; have y1 := (N1.out.ptr.alloc (.cells #[.string s] 9)).cell 0; simp [nwcs] at y0 y1; rw [L1.out] at hap hN2 hB2; have HN2 := Lib.hid hN2; have HB2 := Lib.hid hB2; clear hN2 hB2; dsimp only))
      all_goals (
        have hB3 : Below w.heap.size w (W2.setCell ⟨w.heap.size, 0, none⟩ (.slice A' (k + 1) c')) := (HB.out.drew.trans ((hb1.mono HB.out.size).trans HB2.out))
        have hN3 := HN2.out
        clear d0 d1 hap y0 y1 z0 hf N1 HN2 HB2 hb1
        generalize W2.setCell ⟨w.heap.size, 0, none⟩ (.slice A' (k + 1) c') = W3 at hN3 hB3 ⊢
        have N3 := Lib.hid hN3
        have B3 := Lib.hid hB3
        clear hN3 hB3
        go_upto_region 8 with (fail)
        have hf := full_any (A := none) (n := 0) (c := 0) (b := []) (w := W3.drew) Rd.nil (by omega)
        unfold FullPost at hf
        obtain ⟨s', hs'⟩ : ∃ s', s' = ByteArray.mk (full []).toArray := ⟨_, rfl⟩
        rw [← hs'] at hf
        clear hs'
        have z0 : W3.drew.cell? ⟨w.heap.size, 1, none⟩ = some (.slice A2 k c2) := N3.out.ptr.cell 1
        go_region_law (first | (refine step_append_run7 hap rfl (.tmp 33) (.tmp 35) rfl rfl rfl rfl ?_) | (rw [if_pos (by simp [Region.wanted])]; unfold Oper.wp; go_simp; refine hf.mono ?_; rintro e W4 ⟨rfl, hb4⟩; have N4 := Lib.hid (N3.out.drew.below hb4); obtain ⟨v', W5, hap, d0, d1, hN5, hB5, A5, c5, rfl⟩ := N4.out.app2 s' (by rw [L2.out]; omega) (by have := B3.out.size; have := hb4.size; have := N3.out.ptr.lt; have e : W3.drew.heap.size = W3.heap.size := rfl; omega) 54; have y0 := N4.out.ptr.cell 1; have y1 := (N4.out.ptr.alloc (.cells #[.string s'] 9)).cell 1; simp [nwcs] at y0 y1; rw [L2.out] at hap hN5 hB5; have HN5 := Lib.hid hN5; have HB5 := Lib.hid hB5; clear hN5 hB5; dsimp only))
        all_goals (
          have hB6 : Below w.heap.size w (W5.setCell ⟨w.heap.size, 1, none⟩ (.slice A5 (k + 1) c5)) := (B3.out.drew.trans ((hb4.mono B3.out.size).trans HB5.out))
          have hN6 := HN5.out
          clear d0 d1 hap y0 y1 z0 hf N4 HN5 HB5 hb4
          generalize W5.setCell ⟨w.heap.size, 1, none⟩ (.slice A5 (k + 1) c5) = W6 at hN6 hB6 ⊢
          obtain ⟨v', W7, hap, d0, d1, hN7, hB7, A7, c7, rfl⟩ := hN6.app3 (by rw [L3.out]; omega) (by have := hB6.size; have := hN6.ptr.lt; omega) 24
          rw [L3.out] at hap hN7 hB7
          have y0 := hN6.ptr.cell 2
          simp [nwcs] at y0
          have HN7 := Lib.hid hN7
          have HB7 := Lib.hid (hB6.trans hB7)
          clear hN7 hB7 hN6 hB6
          go_wp2_with (at_builtin; refine wpList_append_run hap rfl _ _ rfl rfl rfl rfl ?_)
          go_roundw
          case rel => exact ⟨k + 1, _, _, _, _, _, _, hlt, by go_num, by simp [L1.out], by simp [L2.out], by simp [L3.out], HN7.out, HB7.out⟩
          case measure => simp [intOf]; omega))
    · obtain rfl : k = n := by omega
      have hlt' : ¬ (k : Int) < (k : Int) := by omega
      go_wp2
      go_ret2
      obtain ⟨q1, rfl, hq1, R1⟩ := own_str HN.out.o1 L1.out h0
      obtain ⟨q2, rfl, hq2, R2⟩ := own_str HN.out.o2 L2.out h0
      obtain ⟨q3, rfl, hq3, R3⟩ := own_tru HN.out.o3 L3.out h0
      exact ⟨w.heap.size, q1, q2, q3, rfl, ⟨⟨c1, c2, c3, false, false, 0, HN.out.ptr⟩, R1, R2, R3, hn⟩, by rintro j (rfl | rfl | rfl | rfl) <;> omega, HB.out⟩
end Go.Proofs.Ytoookmkfaihbpaa
