/-
  Both disks in a statement: how they begin, a script of calls on them. Plain lemmas over the contracts.
-/
import Derived.Test.YtoookmkfaihbpaaPdCall3
namespace Go.Proofs.Ytoookmkfaihbpaa
open Go.RowKit

/-- Both disks, made behind w0. -/
structure Two (w0 w : World) (p q r pm g1 g2 g3 : Nat) (S : Dk) : Prop where
  d : DAt w p q r 16 S
  m : MAt w 16 pm g1 g2 g3
  dm : ∀ k, ds p q r k → ¬ ms pm g1 g2 g3 k
  lo : ∀ k, cs7 p q r pm g1 g2 g3 k → w0.heap.size ≤ k
  be : Below w0.heap.size w0 w
section
variable {w0 w w' : World} {p q r pm g1 g2 g3 : Nat} {S T : Dk}
theorem Two.start {w1 w2 : World} (hd : DAt w1 p q r 16 S) (ld : ∀ k, ds p q r k → w0.heap.size ≤ k) (hb : Below w0.heap.size w0 w1) (hm : MAt w2 16 pm g1 g2 g3) (lm : ∀ k, ms pm g1 g2 g3 k → w1.heap.size ≤ k) (hb2 : Below w1.heap.size w1 w2) : Two w0 w2 p q r pm g1 g2 g3 S :=
  ⟨hd.below hb2, hm, fun k hk hm' => by have := hd.lt hk; have := lm k hm'; omega, fun k hk => by
    rcases hk with hk | hk
    · exact ld k hk
    · have := lm k hk; have := hb.size; omega, hb.trans (hb2.mono hb.size)⟩
theorem Two.pre (h : Two w0 w p q r pm g1 g2 g3 S) {A : Option Addr} {n : Nat} {l : List Pop} (hr : RdPops w0 A n l) (hs : SmallP l) {j : Nat} {o : Pop} (hj : l[j]? = some o) : CallPre w 16 p q r pm g1 g2 g3 S o := by
  have hm := List.mem_of_getElem? hj
  have ho := hr.rd o hm
  refine ⟨h.d, h.m, h.dm, ho.below h.be, fun hn x hx hc => ?_, fun hn x hx hc => ?_, (hs.2 o hm).1⟩
  · obtain ⟨b, off, e, hb, _⟩ := ho.bytes.at_ hn
    rw [e] at hx
    injection hx with hx
    subst hx
    have := h.lo _ hc
    dsimp only at this
    omega
  · obtain ⟨b, off, e, hb, _⟩ := ho.keep.at_ hn
    rw [e] at hx
    injection hx with hx
    subst hx
    have := h.lo _ hc
    dsimp only at this
    omega
/-- A row that came in is none of the disks'. -/
theorem Two.far (h : Two w0 w p q r pm g1 g2 g3 S) {A : Option Addr} {n : Nat} {l : List UInt8} (hr : Rd w0 A n l) : 0 < n → ∀ x, A = some x → ¬ ds p q r x.block := fun hn x hx hc => by
  obtain ⟨b, off, e, hb, _⟩ := hr.at_ hn
  rw [e] at hx
  injection hx with hx
  subst hx
  have := h.lo _ (.inl hc)
  dsimp only at this
  omega
theorem Two.farV (h : Two w0 w p q r pm g1 g2 g3 S) {A : Option Addr} {n : Nat} {l : List Value} (hr : RdV w0 A n l) : 0 < n → ∀ x, A = some x → ¬ ds p q r x.block := fun hn x hx hc => by
  obtain ⟨b, off, e, hb, _⟩ := hr.at_ hn
  rw [e] at hx
  injection hx with hx
  subst hx
  have := h.lo _ (.inl hc)
  dsimp only at this
  omega
theorem Two.post (h : Two w0 w p q r pm g1 g2 g3 S) {e : Ending} (k : CallPost w 16 p q r pm g1 g2 g3 e w') : ∃ b T, e = .returned (.bool b) ∧ Two w0 w' p q r pm g1 g2 g3 T := by
  obtain ⟨b, T, he, hd, hm, ho⟩ := k
  exact ⟨b, T, he, hd, hm, h.dm, h.lo, h.be.trans (ho.below h.lo h.be.size)⟩
/-- Behind a call of the one. -/
theorem Two.onD (h : Two w0 w p q r pm g1 g2 g3 S) (d : DAt w' p q r 16 T) (k : Oth (ds p q r) w w') : Two w0 w' p q r pm g1 g2 g3 T :=
  ⟨d, h.m.oth k fun j hj hd => h.dm j hd hj, h.dm, h.lo, h.be.trans (k.below (fun j hj => h.lo j (.inl hj)) h.be.size)⟩
theorem Two.below (h : Two w0 w p q r pm g1 g2 g3 S) (k : Below w.heap.size w w') : Two w0 w' p q r pm g1 g2 g3 S := ⟨h.d.below k, h.m.below k, h.dm, h.lo, h.be.trans (k.mono h.be.size)⟩
theorem Two.drew (h : Two w0 w p q r pm g1 g2 g3 S) : Two w0 w.drew p q r pm g1 g2 g3 S := h.below (Below.refl _ _).drew
end
/-- So many calls of a script are done. -/
def ScRel (w0 : World) (p q r pm g1 g2 g3 n : Nat) (i : Value) (wr : World) : Prop := ∃ (k : Nat) (S : Dk), k ≤ n ∧ i = .int .i64 (k : Int) ∧ Two w0 wr p q r pm g1 g2 g3 S
/-- New of both, as the statements call them. -/
theorem new16 (w : World) : Calls Try.prog 9 #[.int .i64 16] w fun e w' => ∃ p q r, e = .returned (.tuple #[.pointer (some ⟨p, 0, none⟩), .int .i64 0]) ∧ DAt w' p q r 16 newD ∧ (∀ k, ds p q r k → w.heap.size ≤ k) ∧ Below w.heap.size w w' :=
  (new_any 16 w).mono fun e w' h => by
    rw [NewPost, if_pos (by decide)] at h
    exact h
theorem mnew16 (w : World) : Calls Try.prog 10 #[.int .i64 16] w (MNew w 16) := mnew_any (n := 16) (by omega) (by omega) 16 rfl w
end Go.Proofs.Ytoookmkfaihbpaa
