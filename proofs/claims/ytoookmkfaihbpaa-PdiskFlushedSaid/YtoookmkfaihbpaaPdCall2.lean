/-
  The statements' own call of both disks, of kinds Read and Write: contracts; and of whatever kind.
-/
import Derived.Test.YtoookmkfaihbpaaPdCall
namespace Go.Proofs.Ytoookmkfaihbpaa
open Go.RowKit

theorem oth_low {X : Nat → Prop} {w w1 w2 : World} {B : Nat} (h : Oth X w w1) (k : Below B w1 w2) (hB : w.heap.size ≤ B) : Oth X w w2 :=
  ⟨k.os.trans h.os, k.tape.trans h.tape, k.output.trans h.output, Nat.le_trans h.size k.size, fun j hj hx => (k.block j (Nat.lt_of_lt_of_le hj hB)).trans (h.block j hj hx)⟩
/-- So far written over: a row of the call's own. -/
def OvRel (U : TypeId) (w : World) (B : Nat) (v : Value) (n : Nat) (i : Value) (wr : World) : Prop := ∃ k : Nat, k ≤ n ∧ i = .int .i64 (k : Int) ∧ (∃ l, l.length = n ∧ Own U wr B v l) ∧ Below B w wr
theorem ov_step {U : TypeId} {B n c k : Nat} {A : Option Addr} {w wr : World} {l : List UInt8} (hk : k < n) (hl : l.length = n) (o : Own U wr B (.slice A n c) l) (hb : Below B w wr) (hB : B ≤ w.heap.size) :
    ∃ g u, A = some ⟨g, 0, none⟩ ∧ wr.cell? ⟨g, k, none⟩ = some u ∧ wr.frozen? ⟨g, k, none⟩ = false ∧ (∃ l2, l2.length = n ∧ Own U (wr.setCell ⟨g, k, none⟩ (.int .u8 85)) B (.slice A n c) l2) ∧ Below B w (wr.setCell ⟨g, k, none⟩ (.int .u8 85)) := by
  rcases o.2 with ⟨_, h0⟩ | ⟨g, cap, cur, hv, hg, hh, hc, hm, hs, ht⟩
  · omega
  · injection hv with e1 e2 e3
    subst e1 e3
    have hcell : wr.cell? ⟨g, k, none⟩ = some (.int .u8 ((l[k]'(by omega)).toNat : Int)) := by
      have := World.ownsRow.cells o (g := g) rfl k (bv (l[k]'(by omega))) (by simp [bvs, List.getElem?_eq_getElem (show k < l.length by omega)])
      rw [add_plain, Nat.zero_add] at this
      exact this
    have o' : wr.ownsRow B U 1 (.slice (some ⟨g, 0, none⟩) n c) n (bvs l) := by
      unfold Own at o
      rw [hl] at o
      exact o
    have hset : Own U (wr.setCell ⟨g, k, none⟩ (.int .u8 85)) B (.slice (some ⟨g, 0, none⟩) n c) (l.set k 85) := by
      unfold Own
      rw [List.length_set, hl]
      have := (World.ownsRow.stored o' k (bv 85)).1
      rw [bvs, List.map_set]
      exact this
    refine ⟨g, _, rfl, hcell, World.ownsRow.frozenAt o' k, ⟨_, by rw [List.length_set]; exact hl, hset⟩, below_grown hb (grown_set wr g k _) (by have := hb.size; omega) hg⟩
section
variable {w w' : World} {n p q r pm g1 g2 g3 : Nat} {S T : Dk} {o : Pop}
theorem CallPre.low (h : CallPre w n p q r pm g1 g2 g3 S o) {w' : World} {B : Nat} (k : Below B w w') (hB : ∀ j, cs7 p q r pm g1 g2 g3 j → j < B) : DAt w' p q r n S ∧ MAt w' n pm g1 g2 g3 :=
  ⟨h.d.keep k.size fun j hj => k.block j (hB j (.inl hj)), h.m.keep fun j hj => k.block j (hB j (.inr hj))⟩
set_option maxRecDepth 20000 in
set_option maxHeartbeats 4000000 in
theorem call_read (h : CallPre w n p q r pm g1 g2 g3 S o) (hk : o.k = 3) :
    Calls Try.prog 11 #[.pointer (some ⟨p, 0, none⟩), .pointer (some ⟨pm, 0, none⟩), popv o] w (CallPost w n p q r pm g1 g2 g3) := by
  obtain ⟨k, a, A, m, c, l, K, j, d, ks⟩ := o
  dsimp only at hk
  subst hk
  have HA := Lib.hid (h.below ((Below.refl _ _).alloc (Nat.le_refl _) (.cells (pcs ⟨3, a, A, m, c, l, K, j, d, ks⟩).toArray 35)))
  have HO := Lib.hid ((Oth.refl (cs7 p q r pm g1 g2 g3) w).alloc (.cells (pcs ⟨3, a, A, m, c, l, K, j, d, ks⟩).toArray 35))
  have HW := Lib.hid (pop_box w ⟨3, a, A, m, c, l, K, j, d, ks⟩)
  clear h
  have c1 := read_any HA.out.d a rfl rfl
  generalize rdE n a = er at c1
  have hlen : (rdL n S a).length ≤ 64 := by
    unfold rdL
    split
    · rename_i hin
      rw [HA.out.d.len a.toNat (by omega)]
      omega
    · simp
  generalize rdL n S a = rl at c1 hlen
  unfold popv
  simp only [pcs] at c1 ⊢
  go_enter Try.func11, Try.ntmps11
  go_upto_region 15 with (go_at_call 17; refine c1.mono ?_; rintro e w1 ⟨v, rfl, ho, hb⟩)
  clear c1
  obtain ⟨nl, hnl⟩ : ∃ nl, nl = rl.length := ⟨_, rfl⟩
  obtain ⟨A1, cp, rfl, hcp, hcm, hrd⟩ := ho.shapeN hnl.symm
  have P1 := Lib.hid (HA.out.below hb)
  have Q1 := Lib.hid (HO.out.trans (Oth.of_below hb _))
  have HW1 := Lib.hid (HW.out.below hb)
  have Hlt := Lib.hid fun j (hj : cs7 p q r pm g1 g2 g3 j) => HA.out.lt hj
  have HN := Lib.hid hnl
  have hn64 : nl ≤ 64 := by omega
  have HOw := Lib.hid ho
  have z1 := HW1.out.cell 1
  simp only [pcs] at z1
  have z1' : w1.cell? ⟨w.heap.size, 1, none⟩ = some (.int .i64 a) := z1
  have c2 := mread_any P1.out.m a
  have hconv := hrd.conv (P := Try.prog) cp 23 5 9 Try.underlying23 Try.underlying5 Try.underlying9
  generalize ByteArray.mk rl.toArray = t at hconv
  have HB := Lib.hid hb.size
  have HS := Lib.hid (show (w.alloc (.cells #[.int .i64 3, .int .i64 a, .slice A m c, .slice K j d] 35)).heap.size = w.heap.size + 1 from by simp)
  clear z1 hb ho hrd hnl hlen HW HA HO HW1
  go_upto_region 16 with (go_at_call 26; refine c2.mono ?_; rintro e w2 ⟨s, er2, rfl, rfl⟩)
  clear c2 z1'
  simp only [pcs] at Hlt
  generalize (w.alloc (.cells #[.int .i64 3, .int .i64 a, .slice A m c, .slice K j d] 35)).heap.size = B at HOw Hlt HB HS
  by_cases hts : t.toList = s.toList
  · skip
    go_wp2
    go_loopw [16] (OvRel 65 w2 B (.slice A1 nl cp) nl) (fun i _ => nl - (intOf i).toNat)
    case atStart => exact ⟨0, Nat.zero_le _, rfl, ⟨_, HN.out.symm, HOw.out⟩, Below.refl _ _⟩
    case round =>
      obtain ⟨k, hk, rfl, ⟨l', hl', ho'⟩, hb'⟩ := hrel
      by_cases hlt : k < nl
      · obtain ⟨g, u, rfl, d1, d2, ⟨l2, hl2, ho2⟩, hb2⟩ := ov_step hlt hl' ho' hb' HB.out
        have H2 := Lib.hid ho2
        have HL2 := Lib.hid hl2
        have HB2 := Lib.hid hb2
        clear ho' hl' hb' ho2 hl2 hb2
        have hlt' : (k : Int) < (nl : Int) := by omega
        go_wp2
        go_roundw
        case rel => exact ⟨k + 1, hlt, by go_num, ⟨l2, HL2.out, H2.out⟩, HB2.out⟩
        case measure => simp [intOf]; omega
      · obtain rfl : k = nl := by omega
        have HB2 := Lib.hid hb'
        have PE := Lib.hid (P1.out.low hb' Hlt.out)
        have QE := Lib.hid (oth_low Q1.out hb' (by rw [HS.out]; omega))
        clear ho' hl' hb'
        go_wp2
        go_ret
        exact ⟨_, S, rfl, PE.out.1, PE.out.2, QE.out⟩
  · skip
    go_wp2
    go_loopw [16] (OvRel 65 w2 B (.slice A1 nl cp) nl) (fun i _ => nl - (intOf i).toNat)
    case atStart => exact ⟨0, Nat.zero_le _, rfl, ⟨_, HN.out.symm, HOw.out⟩, Below.refl _ _⟩
    case round =>
      obtain ⟨k, hk, rfl, ⟨l', hl', ho'⟩, hb'⟩ := hrel
      by_cases hlt : k < nl
      · obtain ⟨g, u, rfl, d1, d2, ⟨l2, hl2, ho2⟩, hb2⟩ := ov_step hlt hl' ho' hb' HB.out
        have H2 := Lib.hid ho2
        have HL2 := Lib.hid hl2
        have HB2 := Lib.hid hb2
        clear ho' hl' hb' ho2 hl2 hb2
        have hlt' : (k : Int) < (nl : Int) := by omega
        go_wp2
        go_roundw
        case rel => exact ⟨k + 1, hlt, by go_num, ⟨l2, HL2.out, H2.out⟩, HB2.out⟩
        case measure => simp [intOf]; omega
      · obtain rfl : k = nl := by omega
        have HB2 := Lib.hid hb'
        have PE := Lib.hid (P1.out.low hb' Hlt.out)
        have QE := Lib.hid (oth_low Q1.out hb' (by rw [HS.out]; omega))
        clear ho' hl' hb'
        go_wp2
        go_ret
        exact ⟨_, S, rfl, PE.out.1, PE.out.2, QE.out⟩
end
end Go.Proofs.Ytoookmkfaihbpaa
