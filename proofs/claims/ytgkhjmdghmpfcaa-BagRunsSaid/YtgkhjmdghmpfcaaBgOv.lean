/-
  Rows of messages that are written over.
-/
import Derived.Test.YtgkhjmdghmpfcaaBgRWo
namespace Go.Proofs.Ytgkhjmdghmpfcaa
open Go.RowKit
theorem fm_set {α : Type} {f : α → List Value} {K : Nat} (hf : ∀ x, (f x).length = K) {i : Nat} {u : Value} (hi : i < K) : ∀ {l : List α} {k : Nat} {x y : α}, l[k]? = some x → f y = (f x).set i u → (l.set k y).flatMap f = (l.flatMap f).set (k * K + i) u
  | [], k, x, y, h, _ => by cases h
  | a :: r, 0, x, y, h, e => by
    obtain rfl : a = x := by simpa using h
    rw [List.set_cons_zero, List.flatMap_cons, List.flatMap_cons, e, Nat.zero_mul, Nat.zero_add, List.set_append_left _ _ (by rw [hf]; exact hi)]
  | a :: r, k + 1, x, y, h, e => by
    have h' : r[k]? = some x := by simpa using h
    rw [List.set_cons_succ, List.flatMap_cons, List.flatMap_cons, fm_set hf hi h' e, List.set_append_right _ _ (by rw [hf, Nat.add_mul]; omega), hf]
    congr 2
    rw [Nat.add_mul]
    omega
/-- An entry's Number is written over. -/
def bump (j : Nat) (es : List En) : List En := match es[j]? with | none => es | some x => es.set j { x with n := -77 }
theorem bump_len (j : Nat) (es : List En) : (bump j es).length = es.length := by
  unfold bump
  split
  · rfl
  · rw [List.length_set]
theorem ecl_bump (j : Nat) (es : List En) : ecl (bump j es) = (ecl es).set (j * 11) (.int .i64 (-77)) := by
  unfold bump
  cases h : es[j]? with
  | none =>
    have hl : es.length ≤ j := List.getElem?_eq_none_iff.1 h
    simp only
    rw [List.set_eq_of_length_le (by unfold ecl; rw [fm_len ec_len]; omega)]
  | some x =>
    simp only
    unfold ecl
    rw [fm_set ec_len (i := 0) (u := .int .i64 (-77)) (by omega) h rfl, Nat.add_zero]
/-- Entries of the block b's row: the Number in place j is written over. -/
def upd (b j : Nat) (q : Ms × Value) : Ms × Value := if q.2.ownBlock = some b then ({ q.1 with es := bump j q.1.es }, q.2) else q
theorem upd_snd (b j : Nat) (q : Ms × Value) : (upd b j q).2 = q.2 := by unfold upd; split <;> rfl
theorem upd_len (b j : Nat) (q : Ms × Value) : (upd b j q).1.es.length = q.1.es.length := by
  unfold upd
  split
  · exact bump_len _ _
  · rfl
theorem mcl_upd (b j : Nat) (l : List (Ms × Value)) : mcl (l.map (upd b j)) = mcl l := by
  unfold mcl
  rw [List.flatMap_map]
  congr 1
  funext q
  unfold upd
  split <;> rfl
theorem OwnMs.num {w : World} {base g n c : Nat} {l : List (Ms × Value)} (h : OwnMs w base (.slice (some ⟨g, 0, none⟩) n c) l) {k : Nat} {q : Ms × Value} (hq : l[k]? = some q) :
    OwnMs (w.setCell ⟨g, k * 23 + 5, none⟩ (.int .i64 (-77))) base (.slice (some ⟨g, 0, none⟩) n c) (l.set k ({ q.1 with n := -77 }, q.2)) := by
  obtain ⟨A, c', e, -, -, -⟩ := h.rd
  injection e with e1 e2 e3
  subst e1 e2 e3
  have hs := World.ownsRow.stored h.row (k * 23 + 5) (.int .i64 (-77))
  have hm : mcl (l.set k ({ q.1 with n := -77 }, q.2)) = (mcl l).set (k * 23 + 5) (.int .i64 (-77)) := by
    unfold mcl
    exact fm_set mcc_len (by omega) hq rfl
  refine ⟨by rw [List.length_set, hm]; exact hs.1, fun p hp => ?_⟩
  have key : ∀ {e' : Value} {es : List En}, OwnE w base e' es → OwnE (w.setCell ⟨g, k * 23 + 5, none⟩ (.int .i64 (-77))) base e' es := fun {e' es} hE => row_keep hE fun i hi => hs.2.block i (World.ownsRow.lt hE i hi).2 fun c => rows_apart hE h.row (by decide) hi c.symm
  rcases List.mem_or_eq_of_mem_set hp with h' | rfl
  · exact key (h.ents p h')
  · exact key (h.ents q (List.mem_of_getElem? hq))
theorem OwnMs.ent {w : World} {base b : Nat} {v : Value} {l : List (Ms × Value)} (h : OwnMs w base v l) (j : Nat) {q : Ms × Value} (hq : q ∈ l) (hb : q.2.ownBlock = some b) :
    OwnMs (w.setCell ⟨b, j * 11, none⟩ (.int .i64 (-77))) base v (l.map (upd b j)) := by
  have hg := grown_set w b (j * 11) (.int .i64 (-77))
  refine ⟨?_, fun p hp => ?_⟩
  · rw [List.length_map, mcl_upd]
    exact row_keep h.row fun i hi => hg.block i (World.ownsRow.lt h.row i hi).2 fun c => by
      injection c with c
      subst c
      exact rows_apart (h.ents q hq) h.row (by decide) hb hi
  · obtain ⟨p, hp', rfl⟩ := List.mem_map.1 hp
    have hE := h.ents p hp'
    rw [upd_snd]
    by_cases hpb : p.2.ownBlock = some b
    · have he : (upd b j p).1.es = bump j p.1.es := by unfold upd; rw [if_pos hpb]
      rw [he]
      obtain ⟨A, c, ev, -, -⟩ := hE.rd
      unfold OwnE at hE ⊢
      rw [bump_len, ecl_bump]
      rcases hE.2 with ⟨e0, _⟩ | ⟨g, cap, cur, e0, _⟩
      · rw [e0] at hpb
        cases hpb
      · rw [e0] at hpb hE ⊢
        obtain rfl : g = b := by injection hpb
        exact (World.ownsRow.stored hE (j * 11) _).1
    · have he : upd b j p = p := by unfold upd; rw [if_neg hpb]
      rw [he]
      exact row_keep hE fun i hi => hg.block i (World.ownsRow.lt hE i hi).2 fun c => hpb (hi.trans c)
end Go.Proofs.Ytgkhjmdghmpfcaa
