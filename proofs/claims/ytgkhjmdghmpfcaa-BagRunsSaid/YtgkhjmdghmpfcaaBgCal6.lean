/-
  BagRuns: the call's Put, what comes behind its loop.
-/
import Derived.Test.YtgkhjmdghmpfcaaBgCal5
namespace Go.Proofs.Ytgkhjmdghmpfcaa
open Go.RowKit
theorem names_small {os ms : List (Ms × Value)} (h : names os = names ms) (hs : ∀ q ∈ ms, SmallM q.1) : ∀ q ∈ os, SmallM q.1 := by
  intro q hq
  have h1 : q.1 ∈ names os := List.mem_map_of_mem hq
  rw [h] at h1
  obtain ⟨q', h2, h3⟩ := List.mem_map.1 h1
  rw [← h3]
  exact hs q' h2
def PutChain (w W2 : World) (p base room n c m cm g : Nat) (A B : Option Addr) (acc vL : Value) : Prop :=
  Calls Try.prog 20 #[.pointer (some ⟨p, 0, none⟩), acc] W2 fun e W3 => e = .returned (.int .i64 0) ∧ W3.cell? ⟨g, 2, none⟩ = some vL ∧
    Calls Try.prog 14 #[acc, .slice B m cm] W3 fun e W4 => e = .returned (.bool true) ∧
      Calls Try.prog 15 #[acc] W4 fun e W5 => e = .returned (.tuple #[]) ∧ W5.cell? ⟨g, 2, none⟩ = some vL ∧
        Calls Try.prog 24 #[.slice A n c, .slice B m cm, .int .i64 (room : Int)] W5 fun e w' => ∃ r, e = .returned r ∧ CalPost base p room w (.returned (.tuple #[r, .bool true])) w'
theorem put_then {w W1 W2 : World} {p base room n c m cm g : Nat} {A B : Option Addr} {v acc vL : Value} {d l os ms : List (Ms × Value)} (h : CalAt W1 p base room A n c v d l) (hB : Below base w W1) (b2 : Below W1.heap.size W1 W2)
    (hO : OwnMs W2 W1.heap.size acc os) (hos : names os = names ms) (hm : m ≤ 300) (hsm : ∀ q ∈ ms, SmallM q.1) (hL : ∀ W, Below base w W → RdM W B m ms) (hg : g < W1.heap.size) (hgX : ¬ bX p v g) (hz : W1.cell? ⟨g, 2, none⟩ = some vL) :
    PutChain w W2 p base room n c m cm g A B acc vL := by
  have h2 := h.below b2
  have hml : ms.length = m := (hL W1 hB).len
  have hol : os.length = m := by have := congrArg List.length hos; rw [names_len, names_len] at this; omega
  have hosm := names_small hos hsm
  obtain ⟨A', c', rfl, hc', hr2, hbk⟩ := hO.rd
  unfold PutChain
  refine (put_any h2.bag hr2 (by omega) hosm).mono ?_
  rintro e W3 ⟨rfl, os2, v', hos2, hb3, ho3, hv', he2⟩
  have hs12 := b2.size
  have hs23 := ho3.size
  have hrow : ∀ k, (Value.slice A' os.length c').ownBlock = some k → W1.heap.size ≤ k ∧ k < W2.heap.size := fun k hk => World.ownsRow.lt hO.row k hk
  have hent : ∀ q ∈ os, ∀ k, q.2.ownBlock = some k → W1.heap.size ≤ k ∧ k < W2.heap.size := fun q hq k hk => World.ownsRow.lt (hO.ents q hq) k hk
  have hbx : ∀ k, bX p v k → k < W1.heap.size := fun k hk => h.bag.lt hk
  have hB3 : Below base w W3 := (hB.trans (b2.mono h.bag.size)).trans (ho3.below h.bag.ge h2.bag.size)
  have ho13 : Oth (fun k => bX p v k ∨ W1.heap.size ≤ k) W1 W3 := (Oth.of_below b2 _).trans (ho3.mono fun k hk => .inl hk)
  have hgN : ¬ (bX p v g ∨ W1.heap.size ≤ g) := by
    rintro (h1 | h1)
    · exact hgX h1
    · omega
  have hO3 : OwnMs W3 W1.heap.size (.slice A' os.length c') os := hO.oth ho3 (fun k hk hx => by have := (hrow k hk).1; have := hbx k hx; omega) (fun q hq k hk hx => by have := (hent q hq k hk).1; have := hbx k hx; omega)
  have hr3 : RdM W3 A' os.length os := hr2.othX ho3 (fun b off e hx => by have := (hrow b (hbk b off e)).1; have := hbx b hx; omega) (fun q hq k hk hx => by have := (hent q hq k hk).1; have := hbx k hx; omega)
  refine ⟨rfl, (World.cell?_of_block (ho13.block g hg hgN)).trans hz, ?_⟩
  refine (all_any (c := c') (d := cm) hr3 (hL W3 hB3) (by omega) (fun q hq => by have := (hosm q hq).1; omega)).mono ?_
  rintro e W4 ⟨rfl, b4⟩
  refine ⟨by rw [decide_eq_true hos], ?_⟩
  refine (over_any (hO3.below b4) (by omega) (fun q hq => (hosm q hq).1)).mono ?_
  rintro e W5 ⟨rfl, l5, -, -, -, ho5⟩
  have hox : ∀ k, oX (.slice A' os.length c') (os.map (·.2)) k → W1.heap.size ≤ k ∧ k < W2.heap.size := by
    rintro k (hk | ⟨e, he, hk⟩)
    · exact hrow k hk
    · obtain ⟨q, hq, rfl⟩ := List.mem_map.1 he
      exact hent q hq k hk
  have ho15 : Oth (fun k => bX p v k ∨ W1.heap.size ≤ k) W1 W5 := (ho13.trans (Oth.of_below b4 _)).trans (ho5.mono fun k hk => .inr (hox k hk).1)
  have hb5 : BagAt W5 p base room v' (lastN room (l ++ os2)) := (hb3.below b4).oth ho5 (fun hx => by have := (hox _ hx).1; have := h.bag.ptr.lt; omega) (fun k hk hx => by
    have h1 := hox _ hx
    rcases hv' with e | ⟨k', e, hk'⟩
    · rw [e] at hk
      have := hbx k (.inr hk)
      omega
    · rw [e] at hk
      have : k' = k := by injection hk
      omega) (fun q hq k hk hx => by
    have h1 := hox _ hx
    rcases List.mem_append.1 (mem_lastN hq) with hl | hl
    · have := (World.ownsRow.lt (h.bag.ents q hl) k hk).2
      omega
    · have := (World.ownsRow.lt (he2 q hl) k hk).1
      omega)
  have hB5 : Below base w W5 := (hB3.trans (b4.mono hb3.size)).trans (ho5.below (B := base) (fun k hk => Nat.le_trans h.bag.size (hox k hk).1) (hb3.below b4).size)
  have hd5 : RdM W5 A n d := h.row.othN ho15 (fun b off e hb hx => by
    rcases hx with hx | hx
    · exact h.sepA b off e hx
    · omega) (fun q hq hne k hk hx => by
    rcases hx with hx | hx
    · exact h.sepE q hq hne k hk hx
    · have := (h.row.ents q hq).lt hne hk
      omega)
  refine ⟨rfl, (World.cell?_of_block (ho15.block g hg hgN)).trans hz, ?_⟩
  refine (rput_any (most := room) (c := c) (c2 := cm) hd5 (by have := h.le; omega) (hL W5 hB5) (by omega) hsm).mono ?_
  rintro e w' ⟨A5, N5, c5, os5, rfl, r1, r2, r3, r4, r5, r6⟩
  exact ⟨_, rfl, cal_put hb5 (by rw [hos2, hos]) h.nam h.kin (sep_new (by
    rcases hv' with e | ⟨k', e, hk'⟩
    · exact .inl e
    · exact .inr ⟨k', e, by omega⟩) h.row.ents h.sepE) hB5 r1 r2 r3 r4 r5 r6⟩
end Go.Proofs.Ytgkhjmdghmpfcaa
