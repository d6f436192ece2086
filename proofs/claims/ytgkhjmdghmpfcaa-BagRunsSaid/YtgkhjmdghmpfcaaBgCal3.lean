/-
  BagRuns: the two rows and the bag between two rounds; what each call leaves. Plain lemmas.
-/
import Derived.Test.YtgkhjmdghmpfcaaBgCal2
namespace Go.Proofs.Ytgkhjmdghmpfcaa
open Go.RowKit
theorem names_app (a b : List (Ms × Value)) : names (a ++ b) = names a ++ names b := by simp [names]
theorem names_lastN (k : Nat) (l : List (Ms × Value)) : names (lastN k l) = lastN k (names l) := by unfold lastN; rw [names_drop, names_len]
theorem names_erase (l : List (Ms × Value)) (k : Nat) : names (l.eraseIdx k) = (names l).eraseIdx k := by
  rw [List.eraseIdx_eq_take_drop_succ, List.eraseIdx_eq_take_drop_succ, names_app, names_drop]
  simp [names, List.map_take]
theorem mem_lastN {α : Type} {k : Nat} {l : List α} {x : α} (h : x ∈ lastN k l) : x ∈ l := List.mem_of_mem_drop h
theorem mem_real {l : List Ms} {m : Ms} (h : m ∈ real l) : m.k ≠ 0 := by
  unfold real at h
  simpa using (List.mem_filter.1 h).2
theorem real_one {m : Ms} (h : m.k ≠ 0) : real [m] = [m] := by simp [real, h]
section
variable {w w' : World} {X : Nat → Prop}
theorem MsgR.lt {q : Ms × Value} (h : MsgR w q) (hne : q.1.es ≠ []) {k : Nat} (hk : q.2.ownBlock = some k) : k < w.heap.size := by
  obtain ⟨A, c, e, r⟩ := h
  have h0 : 0 < q.1.es.length := List.length_pos_iff.2 hne
  obtain ⟨b, off, rfl, hb, -⟩ := r.rd.at_ h0
  rw [e] at hk
  have : b = k := by injection hk
  omega
theorem MsgR.othN {q : Ms × Value} (h : MsgR w q) (hO : Oth X w w') (hX : q.1.es ≠ [] → ∀ k, q.2.ownBlock = some k → ¬ X k) : MsgR w' q := by
  by_cases hne : q.1.es = []
  · obtain ⟨A, c, e, r⟩ := h
    refine ⟨A, c, e, ⟨rfl, r.rd.len, fun h0 => ?_⟩⟩
    rw [hne] at h0
    exact absurd h0 (by simp)
  · exact h.othX hO (hX hne)
theorem RdC.othL {A : Option Addr} {n K : Nat} {cs : List Value} (h : RdC w A n K cs) (hO : Oth X w w') (hX : ∀ b off, A = some ⟨b, off, none⟩ → b < w.heap.size → ¬ X b) : RdC w' A n K cs := h.keep (fun b off e hl => hO.block _ hl (hX b off e hl)) hO.size
theorem RdM.othN {A : Option Addr} {n : Nat} {l : List (Ms × Value)} (h : RdM w A n l) (hO : Oth X w w') (hA : ∀ b off, A = some ⟨b, off, none⟩ → b < w.heap.size → ¬ X b) (hE : ∀ q ∈ l, q.1.es ≠ [] → ∀ k, q.2.ownBlock = some k → ¬ X k) : RdM w' A n l :=
  ⟨h.len, h.rd.othL hO hA, fun q hq => (h.ents q hq).othN hO (hE q hq)⟩
end
theorem BagAt.lt {w : World} {p base room : Nat} {v : Value} {l : List (Ms × Value)} (h : BagAt w p base room v l) {k : Nat} (hk : bX p v k) : k < w.heap.size := by
  rcases hk with rfl | hk
  · exact h.ptr.lt
  · exact (World.ownsRow.lt h.row k hk).2

/-- The document's row, and the bag, between two rounds. -/
structure CalAt (w : World) (p base room : Nat) (A : Option Addr) (n c : Nat) (v : Value) (d l : List (Ms × Value)) : Prop where
  bag : BagAt w p base room v l
  row : RdM w A n d
  cap : n ≤ c
  nam : names d = names l
  kin : ∀ m ∈ names l, m.k ≠ 0
  sepA : ∀ b off, A = some ⟨b, off, none⟩ → ¬ bX p v b
  sepE : ∀ q ∈ d, q.1.es ≠ [] → ∀ k, q.2.ownBlock = some k → ¬ bX p v k
def CalPost (base p room : Nat) (w : World) (e : Ending) (w' : World) : Prop := ∃ A n c v d l, e = .returned (.tuple #[.slice A n c, .bool true]) ∧ CalAt w' p base room A n c v d l ∧ Below base w w'
section
variable {w w' : World} {p base room n c : Nat} {A : Option Addr} {v : Value} {d l : List (Ms × Value)}
theorem CalAt.below (h : CalAt w p base room A n c v d l) (hb : Below w.heap.size w w') : CalAt w' p base room A n c v d l :=
  ⟨h.bag.below hb, h.row.below hb, h.cap, h.nam, h.kin, h.sepA, h.sepE⟩
theorem CalAt.len (h : CalAt w p base room A n c v d l) : l.length = n := by
  have := congrArg List.length h.nam
  rw [names_len, names_len, h.row.len] at this
  exact this.symm
theorem CalAt.le (h : CalAt w p base room A n c v d l) : n ≤ 200 := by
  have := h.len
  have := h.bag.len
  have := h.bag.hi
  omega
theorem CalAt.get (h : CalAt w p base room A n c v d l) {k : Nat} (hk : k < n) : ∃ m e0 e, d[k]? = some (m, e0) ∧ l[k]? = some (m, e) ∧ SmallM m ∧ m.k ≠ 0 := by
  have hd : k < d.length := by rw [h.row.len]; exact hk
  have hl : k < l.length := by rw [h.len]; exact hk
  have g1 := List.getElem?_eq_getElem hd
  have g2 := List.getElem?_eq_getElem hl
  have e1 := names_get g1
  have e2 := names_get g2
  rw [h.nam, e2] at e1
  have e3 : l[k].1 = d[k].1 := Option.some.inj e1
  refine ⟨l[k].1, d[k].2, l[k].2, by rw [g1, e3], g2, h.bag.small _ (List.getElem_mem hl), h.kin _ (List.mem_of_getElem? e2)⟩
/-- A call that leaves both rows as they were. -/
theorem CalAt.stay (h : CalAt w p base room A n c v d l) (hb : Below w.heap.size w w') : CalPost base p room w (.returned (.tuple #[.slice A n c, .bool true])) w' :=
  ⟨A, n, c, v, d, l, rfl, h.below hb, hb.mono h.bag.size⟩
/-- Behind the document's Put. -/
theorem cal_put {W3 : World} {v' : Value} {os ms : List (Ms × Value)} (hb : BagAt W3 p base room v' (lastN room (l ++ os))) (hos : names os = real (names ms)) (hn : names d = names l) (hk : ∀ m ∈ names l, m.k ≠ 0)
    (hE : ∀ q ∈ d, q.1.es ≠ [] → ∀ k, q.2.ownBlock = some k → ¬ bX p v' k) (hB : Below base w W3) {os5 : List (Ms × Value)} (h1 : names os5 = real (names ms)) (h2 : RdM w' A n (lastN room (d ++ os5))) (h3 : n ≤ c) (h4 : ∀ b off, A = some ⟨b, off, none⟩ → W3.heap.size ≤ b) (h5 : ∀ q ∈ os5, OwnE w' W3.heap.size q.2 q.1.es) (h6 : Below W3.heap.size W3 w') :
    CalPost base p room w (.returned (.tuple #[.slice A n c, .bool true])) w' := by
  refine ⟨A, n, c, v', _, _, rfl, ⟨hb.below h6, h2, h3, ?_, ?_, fun b off e => ?_, fun q hq hne k hk' => ?_⟩, hB.trans (h6.mono hb.size)⟩
  · rw [names_lastN, names_lastN, names_app, names_app, hn, hos, h1]
  · intro m hm
    rw [names_lastN, names_app, hos] at hm
    rcases List.mem_append.1 (mem_lastN hm) with h | h
    · exact hk m h
    · exact mem_real h
  · intro hx
    have := hb.lt hx
    have := h4 b off e
    omega
  · rcases List.mem_append.1 (mem_lastN hq) with h | h
    · exact hE q h hne k hk'
    · intro hx
      have := hb.lt hx
      have := (World.ownsRow.lt (h5 q h) k hk').1
      omega
/-- Behind the document's Without. -/
theorem cal_wo {W3 : World} {v' : Value} {k : Nat} (hb : BagAt W3 p base room v' (l.eraseIdx k)) (hv : v'.ownBlock = v.ownBlock) (hn : names d = names l) (hk : ∀ m ∈ names l, m.k ≠ 0)
    (hE : ∀ q ∈ d, q.1.es ≠ [] → ∀ k, q.2.ownBlock = some k → ¬ bX p v k) (hB : Below base w W3) (h2 : RdM w' A n (d.eraseIdx k)) (h3 : n ≤ c) (h4 : ∀ b off, A = some ⟨b, off, none⟩ → W3.heap.size ≤ b) (h6 : Below W3.heap.size W3 w') :
    CalPost base p room w (.returned (.tuple #[.slice A n c, .bool true])) w' := by
  refine ⟨A, n, c, v', _, _, rfl, ⟨hb.below h6, h2, h3, ?_, ?_, fun b off e => ?_, fun q hq hne j hj => ?_⟩, hB.trans (h6.mono hb.size)⟩
  · rw [names_erase, names_erase, hn]
  · intro m hm
    rw [names_erase] at hm
    exact hk m (List.mem_of_mem_eraseIdx hm)
  · intro hx
    have := hb.lt hx
    have := h4 b off e
    omega
  · have := hE q (List.mem_of_mem_eraseIdx hq) hne j hj
    unfold bX at this ⊢
    rw [hv]
    exact this
end
/-- What a call of the bag wrote stays apart from a row that lay there. -/
theorem sep_new {w : World} {p : Nat} {v v' : Value} {d : List (Ms × Value)} (hv : v'.ownBlock = v.ownBlock ∨ ∃ k, v'.ownBlock = some k ∧ w.heap.size ≤ k) (hd : ∀ q ∈ d, MsgR w q) (hE : ∀ q ∈ d, q.1.es ≠ [] → ∀ k, q.2.ownBlock = some k → ¬ bX p v k) :
    ∀ q ∈ d, q.1.es ≠ [] → ∀ k, q.2.ownBlock = some k → ¬ bX p v' k := by
  intro q hq hne k hk hx
  have h1 := hE q hq hne k hk
  have h2 := (hd q hq).lt hne hk
  rcases hx with rfl | hx
  · exact h1 (.inl rfl)
  · rcases hv with e | ⟨k', e, hk'⟩
    · exact h1 (.inr (e ▸ hx))
    · rw [e] at hx
      have : k' = k := by injection hx
      omega
end Go.Proofs.Ytgkhjmdghmpfcaa
