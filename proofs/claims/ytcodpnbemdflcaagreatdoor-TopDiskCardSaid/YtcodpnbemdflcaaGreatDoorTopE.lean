/-
  The law TopDisk: what lies in memory between its steps. Plain lemmas.
-/
import Derived.Test.YtcodpnbemdflcaaGreatDoorTg49
import Derived.Test.YtcodpnbemdflcaaGreatDoorTg16
import Derived.Test.YtcodpnbemdflcaaGreatDoorTg50
namespace Go.Proofs.YtcodpnbemdflcaaGreatDoor
open Go.RowKit

section
variable {w w' : World} {base P G g p q r n : Nat} {vs : Value} {s : HSl} {os : List (Ob × OSl)} {A F st x : Nat} {H : Hp} {L : List (List UInt8)} {S : Dk} {X : Nat → Prop}
/-- A Pheap's blocks are as new as it, or its disk's. -/
theorem Phd.oth (h : Phd w base P G g p q r n vs s os A F st x H L S) (ho : Oth X w w') (hx : ∀ k, X k → k < base ∧ ¬ ds p q r k) : Phd w' base P G g p q r n vs s os A F st x H L S := by
  have hL : ∀ k, LX g p q r vs k → ¬ X k := fun k hk hX => by
    obtain ⟨h1, h2⟩ := hx k hX
    rcases hk with e | e | e
    · have := h.lgd.bg; omega
    · exact h2 e
    · have := (h.lgd.la.sz.lt k e).1; omega
  have hH : ∀ k, HBlk s os k → ¬ X k := fun k hk hX => by
    have := (hx k hX).1
    have := (h.lgd.hp.lt hk).1
    omega
  have hG : ¬ X G := fun hX => by
    have := (hx G hX).1
    have := h.lgd.bG
    omega
  have hP : ¬ X P := fun hX => by
    have := (hx P hX).1
    have := h.bP
    omega
  exact ⟨⟨h.lgd.la.oth ho hL, h.lgd.wh.keep (ho.block _ h.lgd.wh.lt hG), h.lgd.hp.oth ho hH, h.lgd.gl, h.lgd.hl, h.lgd.hg, h.lgd.bG, h.lgd.bg⟩, h.wh.keep (ho.block _ h.wh.lt hP), h.pG, h.pl, h.ph, h.bP⟩
theorem Phd.below (h : Phd w base P G g p q r n vs s os A F st x H L S) (hb : Below w.heap.size w w') : Phd w' base P G g p q r n vs s os A F st x H L S :=
  h.oth (Oth.of_below hb fun _ => False) fun _ h => h.elim
theorem Phd.base_le (h : Phd w base P G g p q r n vs s os A F st x H L S) : base ≤ w.heap.size := by
  have := h.wh.lt
  have := h.bP
  omega
/-- What its operations turn: its own blocks or its disk's, all of this world. -/
theorem Phd.turns (h : Phd w base P G g p q r n vs s os A F st x H L S) {k : Nat} (hk : k = G ∨ LX g p q r vs k) : (base ≤ k ∨ ds p q r k) ∧ k < w.heap.size := by
  rcases hk with rfl | hk
  · exact ⟨.inl h.lgd.bG, h.lgd.wh.lt⟩
  · refine ⟨?_, h.lgd.la.lt hk⟩
    rcases hk with rfl | e | e
    · exact .inl h.lgd.bg
    · exact .inr e
    · exact .inl (h.lgd.la.sz.lt k e).1
end
/-- The law's own heap: its struct in block h, its rows from block lo on, none of them the disk's. -/
structure LawH (w : World) (lo h p q r : Nat) (s : HSl) (os : List (Ob × OSl)) (H : Hp) : Prop where
  own : OwnHp w lo s os H
  wh : Whole w h 28 (hcs H s)
  off : ∀ k, HBlk s os k → ¬ ds p q r k
  ho : ¬ ds p q r h
section
variable {w w' : World} {lo h p q r : Nat} {s : HSl} {os : List (Ob × OSl)} {H : Hp} {X : Nat → Prop}
theorem LawH.oth (k : LawH w lo h p q r s os H) (ho : Oth X w w') (hx : ∀ j, X j → ds p q r j ∨ (j ≠ h ∧ ¬ HBlk s os j)) : LawH w' lo h p q r s os H :=
  ⟨k.own.oth ho fun j hj hX => (hx j hX).elim (k.off j hj) fun e => e.2 hj, k.wh.keep (ho.block _ k.wh.lt fun hX => (hx h hX).elim k.ho fun e => e.1 rfl), k.off, k.ho⟩
theorem LawH.below (k : LawH w lo h p q r s os H) (hb : Below w.heap.size w w') : LawH w' lo h p q r s os H :=
  k.oth (Oth.of_below hb fun _ => False) fun _ h => h.elim
theorem LawH.lt (k : LawH w lo h p q r s os H) {j : Nat} (hj : j = h ∨ HBlk s os j) : j < w.heap.size := by
  rcases hj with rfl | hj
  · exact k.wh.lt
  · exact (k.own.lt hj).2
theorem LawH.mono (k : LawH w lo h p q r s os H) {lo' : Nat} (hl : lo' ≤ lo) : LawH w' lo' h p q r s os H ∨ LawH w lo' h p q r s os H := .inr ⟨k.own.mono hl, k.wh, k.off, k.ho⟩
end
theorem imH_newR {r : Int} (hr : 3 ≤ r ∧ r ≤ 8) : ImH (newH r) := ⟨right_newH hr, rfl, fun x hx => by cases hx⟩
/-- Between the operations: the law's heap, the same heap on the disk, and nothing that a crash may lose. -/
def TdRel (w : World) (h p q r : Nat) (ro : Int) (m : Nat) (pv i : Value) (wr : World) : Prop :=
  ∃ (k : Nat) (H : Hp) (s : HSl) (os : List (Ob × OSl)) (base P G g : Nat) (vs : Value) (s2 : HSl) (os2 : List (Ob × OSl)) (F st : Nat) (S : Dk),
    k ≤ m ∧ pv = .pointer (some ⟨P, 0, none⟩) ∧ i = .int .i64 (k : Int) ∧ ImH H ∧ H.od = ro ∧ H.nx ≤ (k : Int) + 1 ∧ 1 ≤ F ∧ F ≤ 1 + 5 * k ∧
    LawH wr w.heap.size h p q r s os H ∧ (∀ j, j = h ∨ HBlk s os j → j < base) ∧ Phd wr base P G g p q r 256 vs s2 os2 (k + 1) F st 0 H (hpcs H) S ∧ (∀ j, S.had j = none) ∧ w.heap.size ≤ base ∧ Below w.heap.size w wr
/-- Behind heap.Do and the store of what it made: the law's heap anew, the Pheap as it was. -/
structure TdS (w wr W : World) (p5 p9 base P G g p q r : Nat) (vs : Value) (s2 : HSl) (os2 : List (Ob × OSl)) (A F st x : Nat) (H : Hp) (L : List (List UInt8)) (S : Dk) (s' : HSl) (os' : List (Ob × OSl)) (H' : Hp) (rc rv : Int) : Prop where
  own : OwnHp W wr.heap.size s' os' H'
  wh : Whole W p5 28 (hcs H' s')
  res : Whole W p9 40 [.int .i64 rc, .int .i64 rv]
  d : Phd W base P G g p q r 256 vs s2 os2 A F st x H L S
  turns : ∀ j, (j = G ∨ LX g p q r vs j) → w.heap.size ≤ j ∧ j < wr.heap.size ∧ j ≠ p5
  p5w : w.heap.size ≤ p5
  p5r : p5 < wr.heap.size
  p9r : wr.heap.size ≤ p9
  wrw : w.heap.size ≤ wr.heap.size
  below : Below w.heap.size w W
section
variable {w wr wc W W' : World} {p5 p9 base P G g p q r : Nat} {vs : Value} {s s2 s' : HSl} {os os2 os' : List (Ob × OSl)} {A F st x : Nat} {H H' : Hp} {L : List (List UInt8)} {S : Dk} {rc rv : Int}
theorem td_store {a0 a1 a2 a3 a4 a5 a6 a7 : Value} (O' : OwnHp wc wr.heap.size s' os' H') (k5 : Whole wc p5 28 [a0, a1, a2, a3, a4, a5, a6, a7]) (K9 : Whole wc p9 40 [.int .i64 rc, .int .i64 rv]) (h9 : wr.heap.size ≤ p9) (bl : Below wr.heap.size wr wc)
    (law : LawH wr w.heap.size p5 p q r s os H) (hlaw : ∀ j, j = p5 ∨ HBlk s os j → j < base) (D : Phd wr base P G g p q r 256 vs s2 os2 A F st x H L S) (hbase : w.heap.size ≤ base) (bw : Below w.heap.size w wr) (h5 : w.heap.size ≤ p5) (hds : ∀ k, ds p q r k → w.heap.size ≤ k) :
    TdS w wr (set8 wc p5 H' s') p5 p9 base P G g p q r vs s2 os2 A F st x H L S s' os' H' rc rv := by
  obtain ⟨k1, gs⟩ := set8_any (H := H') (s := s') k5
  have h5b := hlaw p5 (.inl rfl)
  have hb := D.base_le
  have hsz := bl.size
  refine ⟨O'.other k5 gs, k1, K9.grown gs (by omega), (D.below bl).oth (Oth.of_grown (X := fun k => k = p5) gs rfl) fun k hk => ?_, fun j hj => ?_, h5, by omega, h9, bw.size, below_grown (bw.trans (bl.mono bw.size)) gs (Nat.le_trans bw.size hsz) h5⟩
  · subst hk
    exact ⟨h5b, law.ho⟩
  · obtain ⟨h1, h2⟩ := D.turns hj
    refine ⟨?_, h2, fun e => ?_⟩
    · rcases h1 with h1 | h1
      · omega
      · exact hds j h1
    · subst e
      rcases h1 with h1 | h1
      · omega
      · exact law.ho h1
/-- Behind an operation of the Pheap. -/
theorem TdS.step (h : TdS w wr W p5 p9 base P G g p q r vs s2 os2 A F st x H L S s' os' H' rc rv) (o : Oth (fun k => k = G ∨ LX g p q r vs k) W W') {vs' : Value} {s3 : HSl} {os3 : List (Ob × OSl)} {A3 F3 st3 x3 : Nat} {H3 : Hp} {L3 : List (List UInt8)} {S3 : Dk}
    (d' : Phd W' base P G g p q r 256 vs' s3 os3 A3 F3 st3 x3 H3 L3 S3) : OwnHp W' wr.heap.size s' os' H' ∧ Whole W' p5 28 (hcs H' s') ∧ Whole W' p9 40 [.int .i64 rc, .int .i64 rv] ∧ Below w.heap.size w W' ∧ Phd W' base P G g p q r 256 vs' s3 os3 A3 F3 st3 x3 H3 L3 S3 := by
  refine ⟨h.own.oth o fun k hk hX => ?_, h.wh.keep (o.block _ h.wh.lt fun hX => (h.turns _ hX).2.2 rfl), h.res.keep (o.block _ h.res.lt fun hX => ?_), h.below.trans (o.below (fun k hk => (h.turns k hk).1) h.below.size), d'⟩
  · have := (h.own.lt hk).1
    have := (h.turns k hX).2.1
    omega
  · have := (h.turns _ hX).2.1
    have := h.p9r
    omega
/-- What turns the disk alone leaves the law's heap. -/
theorem law_disk (hs : OwnHp W wr.heap.size s' os' H') (wh : Whole W p5 28 (hcs H' s')) (b : Below w.heap.size w W) (o : Oth (ds p q r) W W') (hds : ∀ k, ds p q r k → w.heap.size ≤ k ∧ k < wr.heap.size ∧ k ≠ p5) :
    OwnHp W' wr.heap.size s' os' H' ∧ Whole W' p5 28 (hcs H' s') ∧ Below w.heap.size w W' := by
  refine ⟨hs.oth o fun k hk hX => ?_, wh.keep (o.block _ wh.lt fun hX => (hds _ hX).2.2 rfl), b.trans (o.below (fun k hk => (hds k hk).1) b.size)⟩
  have := (hs.lt hk).1
  have := (hds k hX).2.1
  omega
end
end Go.Proofs.YtcodpnbemdflcaaGreatDoor
