/-
  What goes out of what waits, and what comes in: the library's Pop and Push, and the queue's own calls: contracts, one a function.
-/
import Derived.Test.YthiijnanfiddpaaDoorBudQ5
namespace Go.Proofs.YthiijnanfiddpaaDoor
open Go.RowKit

/-- The first one is out, and the others are a heap. -/
def Popped (w : World) (base g : Nat) (v : Value) (l : List Blk) (b : Blk) (w' : World) : Prop :=
  ∃ l' v', (b :: l').Perm l ∧ (∀ c ∈ l', Lq b c) ∧ HeapFrom l' l'.length 0 ∧ Waits w base g v l' v' w'
theorem heap_swapped {l : List Blk} {n : Nat} (h : HeapFrom l l.length 0) (hn : l.length = n + 1) : HeapFrom (swp2 l 0 n) n 1 := fun j c hj hc hcn => by
  rw [nth_swp2 (by omega) (by omega), nth_swp2 (by omega) (by omega), if_neg (by omega), if_neg (by omega), if_neg (by omega), if_neg (by omega)]
  exact h j c (Nat.zero_le _) hc (by omega)
theorem popped_of {w w1 w2 w3 : World} {base g n : Nat} {v v' : Value} {l l2 : List Blk} (h : HeapFrom l l.length 0) (hn : l.length = n + 1) (h1 : Waits w base g v (swp2 l 0 n) v w1) (hp : l2.Perm (swp2 l 0 n)) (hs : ∀ j, n ≤ j → nth l2 j = nth (swp2 l 0 n) j)
    (hh : HeapFrom l2 n 0) (h2 : Waits w1 base g v l2 v w2) (h3 : Waits w2 base g v (l2.take n) v' w3) : nth l2 n = nth l 0 ∧ Popped w base g v l (nth l 0) w3 := by
  have e : nth l2 n = nth l 0 := by rw [hs n (Nat.le_refl _), nth_swp2 (by omega) (by omega), if_pos rfl]
  have hl2 : l2.length = n + 1 := by rw [hp.length_eq, swp2_length]; exact hn
  have ht : (l2.take n).length = n := by rw [List.length_take]; omega
  have hperm : (nth l 0 :: l2.take n).Perm l := by
    have e2 : l2.take n ++ [nth l 0] = l2 := by rw [← e]; exact take_last hl2
    have := List.perm_append_comm (l₁ := [nth l 0]) (l₂ := l2.take n)
    rw [List.singleton_append] at this
    refine this.trans ?_
    rw [e2]
    exact hp.trans (swp2_perm (by omega) (by omega))
  refine ⟨e, l2.take n, v', hperm, fun c hc => ?_, ?_, (h1.trans h2).trans h3⟩
  · exact heap_first_mem h (hperm.mem_iff.1 (List.mem_cons_of_mem _ hc))
  · rw [ht]; exact heap_take hh

set_option maxRecDepth 100000 in
set_option maxHeartbeats 4000000 in
theorem hpop_any (base g : Nat) (v : Value) (l : List Blk) (n : Nat) (w : World) (h : QAt w base g v l) (hn : l.length = n + 1) (hl : n + 1 ≤ 1000) (hh : HeapFrom l l.length 0) :
    Calls Tryd.prog 59 #[qi g] w fun e w' => e = .returned (.iface 32 (bval (nth l 0))) ∧ Popped w base g v l (nth l 0) w' := by
  have mL := run_iLen g
  have mS := run_iSwap g
  have mP := run_iPop g
  have S1 := qLen_any base g v l w h
  rw [hn] at S1
  have hi : qi g = .iface 66 (qv g) := rfl
  have S3 := fun (W : World) (hq : QAt W base g v (swp2 l 0 n)) => down_any base g v (swp2 l 0 n) 0 n W hq (by rw [swp2_length]; omega) (by rw [swp2_length]; omega) (by omega) (heap_swapped hh hn)
  rw [hi] at S3
  clear hi
  unfold qi
  have H := Lib.hid h
  have HN := Lib.hid hn
  have HH := Lib.hid hh
  have e1 : ((n + 1 : Nat) : Int) - 1 = (n : Int) := by omega
  clear h hn hh
  go_enter Tryd.func59, Tryd.ntmps59
  go_wp2_with (first | (go_at_call 64; refine S1.mono ?_; rintro e w1 ⟨rfl, G1⟩) | (go_at_call 115; refine (qSwap_any base g v l 0 n w1 (H.out.below G1.below) (by have := HN.out; omega) (by have := HN.out; omega)).mono ?_; rintro e w2 ⟨rfl, hw2⟩) | (go_at_call 74; refine (S3 w2 hw2.1).mono ?_; rintro e w3 ⟨⟨rv, rfl⟩, l2, hp3, hs3', hh3, hw3⟩; have hs3 := Lib.hid hs3'; clear hs3') | (go_at_call 113; refine (qPop_any base g v l2 n w3 hw3.1 (by rw [hp3.length_eq, swp2_length]; exact HN.out) (by omega)).mono ?_; rintro e w4 ⟨rfl, v', hw4⟩))
  go_ret
  obtain ⟨e2, e3⟩ := popped_of HH.out HN.out ((H.out.waits G1.below).trans hw2) hp3 hs3.out hh3 hw3 hw4
  exact ⟨by rw [← e2]; rfl, e3⟩

set_option maxRecDepth 100000 in
set_option maxHeartbeats 4000000 in
theorem hpush_any (base g : Nat) (v : Value) (l : List Blk) (b : Blk) (w : World) (h : QAt w base g v l) (hl : l.length ≤ 1000) (hb : base ≤ w.heap.size) (hh : HeapFrom l l.length 0) :
    Calls Tryd.prog 63 #[qi g, .iface 32 (bval b)] w fun e w' => e = .returned (.tuple #[]) ∧ ∃ l' v', Made w base g v (l ++ [b]) l' v' w' := by
  have mL := run_iLen g
  have mP := run_iPush g
  have S1 := qPush_any base g v l b w h hl hb
  obtain ⟨n, hn⟩ : ∃ n, n = l.length := ⟨_, rfl⟩
  have hlen : (l ++ [b]).length = n + 1 := by rw [List.length_append, hn]; rfl
  have S2 := fun (W : World) (v' : Value) (hq : QAt W base g v' (l ++ [b])) => qLen_any base g v' (l ++ [b]) W hq
  rw [hlen] at S2
  have hi : qi g = .iface 66 (qv g) := rfl
  have S3 := fun (W : World) (v' : Value) (hq : QAt W base g v' (l ++ [b])) => up_any base g v' (l ++ [b]) n W hq (by rw [hlen]; omega) (by rw [hlen]; omega) (by rw [hn]; exact heapUp_push hh b)
  rw [hi] at S3
  clear hi
  unfold qi
  have e1 : ((n + 1 : Nat) : Int) - 1 = (n : Int) := by omega
  have hn1 : n ≤ 1000 := by omega
  clear h hn hh hlen
  go_enter Tryd.func63, Tryd.ntmps63
  go_wp2_with (first | (go_at_call 114; refine S1.mono ?_; rintro e w1 ⟨rfl, v1, hw1⟩) | (go_at_call 64; refine (S2 w1 v1 hw1.1).mono ?_; rintro e w2 ⟨rfl, G2⟩) | (go_at_call 78; refine (S3 w2 v1 (hw1.1.below G2.below)).mono ?_; rintro e w3 ⟨rfl, l3, hp3, hh3, hw3⟩))
  go_end0
  exact ⟨rfl, l3, v1, hp3, hh3, (hw1.below G2.below).trans hw3⟩
end Go.Proofs.YthiijnanfiddpaaDoor
