/-
  The statements' own call of both disks (tumuluslaw07.call): it does not stop, and leaves disks behind. A contract.
-/
import Derived.Test.YtoookmkfaihbpaaPdRefN
import Derived.Test.YtoookmkfaihbpaaPdAw
import Derived.Test.YtoookmkfaihbpaaLend
namespace Go.Proofs.Ytoookmkfaihbpaa
open Go.RowKit

def cs7 (p q r pm g1 g2 g3 k : Nat) : Prop := ds p q r k ∨ ms pm g1 g2 g3 k
/-- Both disks, and a call that may be done on them. -/
structure CallPre (w : World) (n p q r pm g1 g2 g3 : Nat) (S : Dk) (o : Pop) : Prop where
  d : DAt w p q r n S
  m : MAt w n pm g1 g2 g3
  dm : ∀ k, ds p q r k → ¬ ms pm g1 g2 g3 k
  rd : RdPop w o
  fa : 0 < o.m → ∀ x, o.A = some x → ¬ cs7 p q r pm g1 g2 g3 x.block
  fk : 0 < o.j → ∀ x, o.K = some x → ¬ cs7 p q r pm g1 g2 g3 x.block
  sm : o.m ≤ 1000
def CallPost (w : World) (n p q r pm g1 g2 g3 : Nat) (e : Ending) (w' : World) : Prop :=
  ∃ b S, e = .returned (.bool b) ∧ DAt w' p q r n S ∧ MAt w' n pm g1 g2 g3 ∧ Oth (cs7 p q r pm g1 g2 g3) w w'
section
variable {w w' : World} {n p q r pm g1 g2 g3 : Nat} {S T : Dk} {o : Pop}
theorem rd_oth {X : Nat → Prop} {A : Option Addr} {m : Nat} {l : List UInt8} (h : Rd w A m l) (k : Oth X w w') (hX : 0 < m → ∀ x, A = some x → ¬ X x.block) : Rd w' A m l :=
  ⟨h.len, fun hn => by
    obtain ⟨b, off, e, hb, hc⟩ := h.at_ hn
    exact ⟨b, off, e, Nat.lt_of_lt_of_le hb k.size, fun j x hx => (World.cell?_of_block (k.block b hb (hX hn _ e))).trans (hc j x hx)⟩⟩
theorem rdv_oth {X : Nat → Prop} {A : Option Addr} {m : Nat} {l : List Value} (h : RdV w A m l) (k : Oth X w w') (hX : 0 < m → ∀ x, A = some x → ¬ X x.block) : RdV w' A m l :=
  ⟨h.len, fun hn => by
    obtain ⟨b, off, e, hb, hc⟩ := h.at_ hn
    exact ⟨b, off, e, Nat.lt_of_lt_of_le hb k.size, fun j x hx => (World.cell?_of_block (k.block b hb (hX hn _ e))).trans (hc j x hx)⟩⟩
theorem CallPre.below (h : CallPre w n p q r pm g1 g2 g3 S o) (k : Below w.heap.size w w') : CallPre w' n p q r pm g1 g2 g3 S o := ⟨h.d.below k, h.m.below k, h.dm, h.rd.below k, h.fa, h.fk, h.sm⟩
theorem CallPre.drew (h : CallPre w n p q r pm g1 g2 g3 S o) : CallPre w.drew n p q r pm g1 g2 g3 S o := h.below (Below.refl _ _).drew
/-- Behind a call of the one, and of the other. -/
theorem CallPre.onD (h : CallPre w n p q r pm g1 g2 g3 S o) (d : DAt w' p q r n T) (k : Oth (ds p q r) w w') : CallPre w' n p q r pm g1 g2 g3 T o :=
  ⟨d, h.m.oth k fun j hj hd => h.dm j hd hj, h.dm, ⟨rd_oth h.rd.bytes k fun hn x hx hd => h.fa hn x hx (.inl hd), rdv_oth h.rd.keep k fun hn x hx hd => h.fk hn x hx (.inl hd)⟩, h.fa, h.fk, h.sm⟩
theorem CallPre.onM (h : CallPre w n p q r pm g1 g2 g3 S o) (m : MAt w' n pm g1 g2 g3) (k : Oth (ms pm g1 g2 g3) w w') : CallPre w' n p q r pm g1 g2 g3 S o :=
  ⟨h.d.oth k fun j hj hm => h.dm j hj hm, m, h.dm, ⟨rd_oth h.rd.bytes k fun hn x hx hd => h.fa hn x hx (.inr hd), rdv_oth h.rd.keep k fun hn x hx hd => h.fk hn x hx (.inr hd)⟩, h.fa, h.fk, h.sm⟩
theorem Oth.ofD (k : Oth (ds p q r) w w') : Oth (cs7 p q r pm g1 g2 g3) w w' := k.mono fun _ h => .inl h
theorem Oth.ofM (k : Oth (ms pm g1 g2 g3) w w') : Oth (cs7 p q r pm g1 g2 g3) w w' := k.mono fun _ h => .inr h
/-- Its box. -/
theorem pop_box (w : World) (o : Pop) : Whole (w.alloc (.cells (pcs o).toArray 35)) w.heap.size 35 (pcs o) := Whole.new w (pcs o).toArray 35
theorem CallPre.lt (h : CallPre w n p q r pm g1 g2 g3 S o) {k : Nat} (hk : cs7 p q r pm g1 g2 g3 k) : k < w.heap.size := by
  rcases hk with hk | hk
  · exact h.d.lt hk
  · exact h.m.lt hk

set_option maxRecDepth 20000 in
set_option maxHeartbeats 2000000 in
theorem call_other (h : CallPre w n p q r pm g1 g2 g3 S o) (h1 : o.k ≠ 1) (h2 : o.k ≠ 2) (h3 : o.k ≠ 3) (h4 : o.k ≠ 4) (h5 : o.k ≠ 5) :
    Calls Try.prog 11 #[.pointer (some ⟨p, 0, none⟩), .pointer (some ⟨pm, 0, none⟩), popv o] w (CallPost w n p q r pm g1 g2 g3) := by
  obtain ⟨k, a, A, m, c, l, K, j, d, ks⟩ := o
  have HA := Lib.hid (h.below ((Below.refl _ _).alloc (Nat.le_refl _) (.cells (pcs ⟨k, a, A, m, c, l, K, j, d, ks⟩).toArray 35)))
  have HO := Lib.hid ((Oth.refl (cs7 p q r pm g1 g2 g3) w).alloc (.cells (pcs ⟨k, a, A, m, c, l, K, j, d, ks⟩).toArray 35))
  clear h
  unfold popv pcs
  dsimp only at h1 h2 h3 h4 h5
  go_enter Try.func11, Try.ntmps11
  go_wp2
  go_ret
  exact ⟨_, S, rfl, HA.out.d, HA.out.m, HO.out⟩
set_option maxRecDepth 20000 in
set_option maxHeartbeats 2000000 in
theorem call_flush (h : CallPre w n p q r pm g1 g2 g3 S o) (hk : o.k = 2) :
    Calls Try.prog 11 #[.pointer (some ⟨p, 0, none⟩), .pointer (some ⟨pm, 0, none⟩), popv o] w (CallPost w n p q r pm g1 g2 g3) := by
  obtain ⟨k, a, A, m, c, l, K, j, d, ks⟩ := o
  dsimp only at hk
  subst hk
  have HA := Lib.hid (h.below ((Below.refl _ _).alloc (Nat.le_refl _) (.cells (pcs ⟨2, a, A, m, c, l, K, j, d, ks⟩).toArray 35)))
  have HO := Lib.hid ((Oth.refl (cs7 p q r pm g1 g2 g3) w).alloc (.cells (pcs ⟨2, a, A, m, c, l, K, j, d, ks⟩).toArray 35))
  clear h
  unfold popv pcs
  have c1 := flush_any HA.out.d rfl rfl
  unfold pcs at c1
  go_enter Try.func11, Try.ntmps11
  go_wp2_with (first
    | (go_at_call 13; refine c1.mono ?_; rintro e w1 ⟨rfl, D1, O1⟩; have P1 := Lib.hid (HA.out.onD D1 O1); have Q1 := Lib.hid (HO.out.trans O1.ofD); have c2 := mflush_any P1.out.m; clear D1 O1)
    | (go_at_call 25; refine c2.mono ?_; rintro e w2 ⟨er, rfl, M2, O2⟩; have P2 := Lib.hid (P1.out.onM M2 O2); have Q2 := Lib.hid (Q1.out.trans O2.ofM); clear M2 O2))
  go_ret
  exact ⟨_, _, rfl, P2.out.d, P2.out.m, Q2.out⟩
set_option maxRecDepth 20000 in
set_option maxHeartbeats 2000000 in
theorem call_crash (h : CallPre w n p q r pm g1 g2 g3 S o) (hk : o.k = 5) :
    Calls Try.prog 11 #[.pointer (some ⟨p, 0, none⟩), .pointer (some ⟨pm, 0, none⟩), popv o] w (CallPost w n p q r pm g1 g2 g3) := by
  obtain ⟨k, a, A, m, c, l, K, j, d, ks⟩ := o
  dsimp only at hk
  subst hk
  have HA := Lib.hid (h.below ((Below.refl _ _).alloc (Nat.le_refl _) (.cells (pcs ⟨5, a, A, m, c, l, K, j, d, ks⟩).toArray 35)))
  have HO := Lib.hid ((Oth.refl (cs7 p q r pm g1 g2 g3) w).alloc (.cells (pcs ⟨5, a, A, m, c, l, K, j, d, ks⟩).toArray 35))
  have HW := Lib.hid (pop_box w ⟨5, a, A, m, c, l, K, j, d, ks⟩)
  have hlt : ∀ j, ms pm g1 g2 g3 j → w.heap.size ≠ j := fun j hj e => by have := h.m.lt hj; omega
  have HL := Lib.hid hlt
  clear h hlt
  unfold popv pcs
  have c1 := mcrash_any (c := d) HA.out.m HA.out.rd.keep fun hn x hx hm => HA.out.fk hn x hx (.inr hm)
  unfold pcs at c1
  go_enter Try.func11, Try.ntmps11
  go_upto_region 26 with (go_at_call 28; refine c1.mono ?_; rintro e w1 ⟨rfl, M1, O1⟩)
  have P1 := Lib.hid (HA.out.onM M1 O1)
  have Q1 := Lib.hid (HO.out.trans O1.ofM)
  have z3 := (HW.out.keep (O1.block _ HW.out.lt fun hm => HL.out _ hm rfl)).cell 3
  have z3' : w1.cell? ⟨w.heap.size, 3, none⟩ = some (.slice K j d) := z3
  have c2 := crash_any (c := d) P1.out.d P1.out.rd.keep fun hn x hx hm => P1.out.fk hn x hx (.inl hm)
  clear c1 z3 M1 O1
  go_wp2_with (go_at_call 16; refine c2.mono ?_; rintro e w2 ⟨ks2, _, rfl, D2, O2⟩; have P2 := Lib.hid (P1.out.onD D2 O2); have Q2 := Lib.hid (Q1.out.trans O2.ofD); clear D2 O2)
  go_ret
  exact ⟨_, _, rfl, P2.out.d, P2.out.m, Q2.out⟩
set_option maxRecDepth 20000 in
set_option maxHeartbeats 2000000 in
theorem call_stop (h : CallPre w n p q r pm g1 g2 g3 S o) (hk : o.k = 4) :
    Calls Try.prog 11 #[.pointer (some ⟨p, 0, none⟩), .pointer (some ⟨pm, 0, none⟩), popv o] w (CallPost w n p q r pm g1 g2 g3) := by
  obtain ⟨k, a, A, m, c, l, K, j, d, ks⟩ := o
  dsimp only at hk
  subst hk
  have HA := Lib.hid (h.below ((Below.refl _ _).alloc (Nat.le_refl _) (.cells (pcs ⟨4, a, A, m, c, l, K, j, d, ks⟩).toArray 35))).drew
  have HO := Lib.hid ((Oth.refl (cs7 p q r pm g1 g2 g3) w).alloc (.cells (pcs ⟨4, a, A, m, c, l, K, j, d, ks⟩).toArray 35)).drew
  have HW := Lib.hid (pop_box w ⟨4, a, A, m, c, l, K, j, d, ks⟩).drew
  have hlt : ∀ j, cs7 p q r pm g1 g2 g3 j → w.heap.size ≠ j := fun j hj e => by have := h.lt hj; omega
  have HL := Lib.hid hlt
  clear h hlt
  have c1 := stop_any HA.out.d a rfl rfl
  have c2 := mstop_any HA.out.m a
  have z1 := HW.out.cell 1
  unfold popv
  simp only [pcs] at c1 c2 z1 ⊢
  go_enter Try.func11, Try.ntmps11
  go_wp2
  go_region_with (first
    | (go_at_call 19; first
        | ((with_reducible refine c1.mono ?_); rintro e w1 ⟨rfl, D1, O1⟩; have P1 := Lib.hid (HA.out.onD D1 O1); have Q1 := Lib.hid (HO.out.trans O1.ofD); have z2 := (HW.out.keep (O1.block _ HW.out.lt fun hm => HL.out _ (.inl hm) rfl)).cell 1; simp only [pcs] at z2; have c4 := mstop_any P1.out.m a; clear D1 O1)
        | ((with_reducible refine c3.mono ?_); rintro e w2 ⟨rfl, D1, O1⟩; have P2 := Lib.hid (P1.out.onD D1 O1); have Q2 := Lib.hid (Q1.out.trans O1.ofD); clear D1 O1))
    | (go_at_call 27; first
        | ((with_reducible refine c2.mono ?_); rintro e w1 ⟨er, rfl, D1, O1⟩; have P1 := Lib.hid (HA.out.onM D1 O1); have Q1 := Lib.hid (HO.out.trans O1.ofM); have z2 := (HW.out.keep (O1.block _ HW.out.lt fun hm => HL.out _ (.inr hm) rfl)).cell 1; simp only [pcs] at z2; have c3 := stop_any P1.out.d a rfl rfl; clear D1 O1)
        | ((with_reducible refine c4.mono ?_); rintro e w2 ⟨er, rfl, D1, O1⟩; have P2 := Lib.hid (P1.out.onM D1 O1); have Q2 := Lib.hid (Q1.out.trans O1.ofM); clear D1 O1)))
  all_goals (
    go_wp2
    go_ret
    exact ⟨_, _, rfl, P2.out.d, P2.out.m, Q2.out⟩)
end
end Go.Proofs.Ytoookmkfaihbpaa
