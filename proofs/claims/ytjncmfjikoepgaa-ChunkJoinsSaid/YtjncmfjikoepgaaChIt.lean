/-
  Package chunk: chunks: what its iterator hands over, one piece after the other, each with its place.
-/
import Derived.RangeFuncNested
import Derived.RangeFuncBound
import Derived.RangeFuncCalls
import Derived.RangeFuncLeaves
import Derived.RangeFuncBox
import Derived.Shelf.Abstract
import Derived.Shelf.RegionOpen
import Derived.WalkKit
import Derived.OwnWalkIn
import Derived.TacticsInMore
import Derived.LoopNIn
import Derived.LoopIn
import Derived.BigRegionIn
import Derived.Sort.QuietIn
import Derived.Stop.RegionWithIn
import Derived.Test.YtjncmfjikoepgaaChSm
namespace Go.Proofs.Ytjncmfjikoepgaa
open Go.RowKit Go.Shelf

attribute [local go_sem] Oper.semAt_some
def finTo (n : Nat) {G : Nat} (_ : n ≤ G) : List (Fin G) := (List.finRange G).take n
theorem finTo_succ {n G : Nat} (h : n + 1 ≤ G) : finTo (n + 1) h = finTo n (by omega) ++ [⟨n, h⟩] := by
  unfold finTo
  rw [List.take_add_one, List.getElem?_eq_getElem (by simp; omega)]
  simp
theorem finTo_length {n G : Nat} (h : n ≤ G) : (finTo n h).length = n := by simp [finTo, h]
theorem finTo_all (G : Nat) : finTo G (Nat.le_refl G) = List.finRange G := by unfold finTo; rw [List.take_of_length_le (by simp)]
/-- What a round of the loop keeps: the box that the iterator reads. -/
def KpS (Bs : Nat) (W W' : World) : Prop := W'.heap[Bs]? = W.heap[Bs]?
theorem cell_same {W W' : World} {p : Addr} (h : W'.heap[p.block]? = W.heap[p.block]?) : W'.cell? p = W.cell? p := by unfold World.cell?; rw [h]
/-- What is handed over: the place and the piece. -/
def yv (s : ByteArray) (k : Nat) : Array Value := #[.int .i64 (k : Int), .string (pce s k)]
/-- What a round answers. -/
def RndP {β : Type} (J Jx : List β → World → Prop) (Bs : Nat) (W : World) (l : List β) (e : Ending) (W' : World) : Prop :=
  ∃ b : Bool, e = .returned (.bool b) ∧ Hid ((b = true ∧ J l W' ∧ KpS Bs W W') ∨ (b = false ∧ Jx l W'))
set_option maxRecDepth 100000 in
set_option maxHeartbeats 2000000 in
/-- The iterator's closure. -/
theorem chunks1_in (l Bs : Nat) (s : ByteArray) (hs : s.size ≤ 1000000) (J Jx : List (Fin (cnt s.size)) → World → Prop)
    (hJ : ∀ s W k, J s W → J s (W.drewN k))
    (hY : ∀ pre x W, J pre W → pre.length < cnt s.size → YieldAt Fence.wide 1 Try.prog l (yv s x.1) W fun e W' =>
      (e = .returned (.bool true) ∧ J (pre ++ [x]) W' ∧ KpS Bs W W') ∨ (e = .returned (.bool false) ∧ Jx (pre ++ [x]) W'))
    (W : World) (hBs : W.cell? ⟨Bs, 0, none⟩ = some (.string s)) (h0 : J [] W) :
    CallsIn Fence.wide 2 Try.prog 36 #[.func (.yield l) #[] #[], .pointer (some ⟨Bs, 0, none⟩)] W fun e W' => (∃ v, e = .returned v) ∧
      ((∃ ys, ys = List.finRange (cnt s.size) ∧ J ys W') ∨ (∃ pre, True ∧ Jx pre W')) := by
  have HY : Hid (∀ pre x W, J pre W → pre.length < cnt s.size → YieldAt Fence.wide 1 Try.prog l (yv s x.1) W (RndP J Jx Bs W (pre ++ [x]))) := Lib.hid fun pre x W hj hp => by
    obtain ⟨fn, tmps, assign, body, hy, hR⟩ := hY pre x W hj hp
    refine ⟨fn, tmps, assign, body, hy, hR.mono ?_⟩
    rintro e W' (⟨rfl, h2, h3⟩ | ⟨rfl, h2⟩)
    · exact ⟨true, rfl, Lib.hid (.inl ⟨rfl, h2, h3⟩)⟩
    · exact ⟨false, rfl, Lib.hid (.inr ⟨rfl, h2⟩)⟩
  clear hY
  refine callsIn_of_wp Try.func36 rfl trivial ?_ rfl
  simp only [Try.ntmps36, List.size_toArray, List.length_cons, List.length_nil, Nat.reduceAdd, Nat.reduceSub, Array.replicate_succ, Array.replicate_zero, List.push_toArray, List.append_toArray, List.nil_append, List.cons_append]
  gi_wp2_with (refine ⟨trivial, ?_⟩; gi_at_call 37; refine (callsIn_wide.2 (count_any s.size _ hs)).mono ?_; rintro e w' ⟨rfl, rfl⟩)
  gi_loopw [8] (fun i wr => ∃ (k : Nat) (hk : k ≤ cnt s.size), i = .int .i64 (k : Int) ∧ J (finTo k hk) wr ∧ KpS Bs W wr)
    (fun i _ => cnt s.size - (Go.RowKit.intOf i).toNat)
  case atStart => exact ⟨0, Nat.zero_le _, rfl, h0, rfl⟩
  case round =>
    obtain ⟨k, hk, rfl, hJs, hnx⟩ := hrel
    have hs1 := (cell_same (p := ⟨Bs, 0, none⟩) hnx).trans hBs
    by_cases hlt : k < cnt s.size
    · obtain ⟨q, hq⟩ : ∃ q, q = k * 80 := ⟨_, rfl⟩
      obtain ⟨e, he⟩ : ∃ e, e = pln s.size k := ⟨_, rfl⟩
      have hk80 := cnt_lt.1 hlt
      have hqe : q + e ≤ s.size := by rw [hq, he]; exact pln_in hlt
      have hq2 : (k : Int) * 80 = (q : Int) := by omega
      obtain ⟨r, hr⟩ : ∃ r, r = q + e := ⟨_, rfl⟩
      have hr1 : (q : Int) + (e : Int) = (r : Int) := by omega
      have hr2 : IntKind.i64.wrap (r : Int) = (r : Int) := by rw [IntKind.wrap_i64]; omega
      have hr3 : q ≤ r := by omega
      have hr4 : r ≤ s.size := by omega
      have hq5 : (q : Int) ≤ (r : Int) := by omega
      have hq6 : (r : Int) ≤ (s.size : Int) := by omega
      obtain ⟨x, hx⟩ : ∃ x : Fin (cnt s.size), x = ⟨k, hlt⟩ := ⟨_, rfl⟩
      have HL := fun V => length_any s.size k V hs (Nat.le_of_lt hk80)
      rw [← he] at HL
      have hyv : yv s x.1 = #[.int .i64 (k : Int), .string (s.extract q r)] := by rw [hx]; simp only [yv, pce, ← hq, ← he, ← hr]
      have HY2 := Lib.hid (HY.out _ x wr.drew (hJ _ _ 1 hJs) (by rw [finTo_length]; exact hlt))
      rw [hyv] at HY2
      have HX := Lib.hid hx
      have Hlt := Lib.hid hlt
      clear hyv hx hJs he hq h0 hJ HY hk80 hr hqe
      obtain ⟨fn, tmps, assign, body, hy, hR⟩ := HY2.out
      clear HY2
      gi_wp2
      gi_region_with (first | (refine ⟨trivial, ?_⟩; gi_at_call 38; refine (callsIn_wide.2 (HL _)).mono ?_; rintro e w' ⟨rfl, rfl⟩) | (refine hR.mono ?_; rintro e W3 ⟨b, rfl, HB⟩))
      all_goals (
        clear hy hR HL
        cases b
        · gi_wp2
          refine bodyPost_ret (results_none rfl _ _ _) rfl ?_
          rcases HB.out with ⟨hb, _⟩ | ⟨_, hj⟩
          · cases hb
          · exact ⟨⟨_, rfl⟩, .inr ⟨_, hj⟩⟩
        · rcases HB.out with ⟨_, hj, hk3⟩ | ⟨hb, _⟩
          · gi_wp2
            go_roundw
            case rel => exact ⟨k + 1, Hlt.out, by simp, by rw [finTo_succ Hlt.out, ← HX.out]; exact hj, Eq.trans (show W3.heap[Bs]? = wr.heap[Bs]? from hk3) hnx⟩
            case measure => simp [Go.RowKit.intOf]; omega
          · cases hb)
    · obtain rfl : k = cnt s.size := by omega
      have HJ := Lib.hid hJs
      clear hlt hJs h0 HY hJ
      gi_wp2
      go_end0
      exact ⟨⟨_, rfl⟩, .inl ⟨_, rfl, by rw [← finTo_all]; exact HJ.out⟩⟩
/-- What chunks hands over: all pieces in their order, or some first ones. -/
theorem chunks_stops (s : ByteArray) (hs : s.size ≤ 1000000) (w : World) (Bs : Nat) (hb : Bs < w.heap.size) (cs : w.cell? ⟨Bs, 0, none⟩ = some (.string s)) :
    SeqStopsK Fence.wide 2 Try.prog 36 #[.pointer (some ⟨Bs, 0, none⟩)] (fun x : Fin (cnt s.size) => yv s x.1) (KpS Bs) (fun ys => ys = List.finRange (cnt s.size)) (fun _ => True) (cnt s.size) w :=
  fun l J Jx W hW hJ _ hY h0 => chunks1_in l Bs s hs J Jx (fun s V k h => hJ s V (V.drewN k) none h (grown_below (below_drewN (Below.refl _ _) k) none) (fun r e => by cases e)) hY W
    ((hW.cell (p := ⟨Bs, 0, none⟩) hb).trans cs) h0
set_option maxHeartbeats 400000 in
theorem chunks_any (s : ByteArray) (w : World) :
    Calls Try.prog 23 #[.string s] w fun e w' => e = .returned (.func (.func 36) #[] #[.pointer (some ⟨w.heap.size, 0, none⟩)]) ∧ w' = w.alloc (.cells #[.string s] 9) := by
  have hmf : ∀ (fn : Fn) (first cap : Array Value) (w : World), (Instr.makeFunc fn first cap).run Try.prog w = .ok (.func fn first cap) w := fun _ _ _ _ => rfl
  go_enter Try.func23, Try.ntmps23
  go_wp2
  go_ret
  exact ⟨rfl, rfl⟩
end Go.Proofs.Ytjncmfjikoepgaa
