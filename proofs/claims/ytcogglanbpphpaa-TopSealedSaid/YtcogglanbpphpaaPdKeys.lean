/-
  The places of dirty sectors, in order: slices.Sorted(maps.Keys(m)): contracts, out of the kit's. No condition but that the map is one of sectors.
-/
import Derived.Test.YtcogglanbpphpaaPdMem
import Derived.Test.YtcogglanbpphpaaShelf7
namespace Go.Proofs.Ytcogglanbpphpaa
open Go.RowKit Go.Maps Go.Sort Go.Shelf

theorem sortsI (m : Nat) : AnyZI.SortsIn Try.prog Try.sortedI_ren Fence.wide m :=
  ⟨fun blk off cap ss W hH hblk hsz => callsIn_wide.2 (AnyM.slices_Sort_int Try.sortI blk off cap ss W hH hblk hsz),
   fun p cap W => callsIn_wide.2 (AnyM.slices_Sort_int_none Try.sortI p cap W)⟩

/-- maps.Keys at whatever map: a function value over one new block that holds the map. -/
theorem keys_any (mb : Option Nat) (W : World) : Calls Try.prog 29 #[.map mb] W fun e w' =>
    e = .returned (.func (.func 45) #[] #[.pointer (some ⟨W.heap.size, 0, none⟩)]) ∧ w' = W.alloc (.cells #[.map mb] 41) := by
  refine (callsIn_wide (n := 5)).1 ?_
  exact AnyZI.keys_in Try.keysS Fence.wide 5 trivial rfl mb W

def nvs (l : List Nat) : List Value := l.map fun k : Nat => .int .i64 (k : Int)
/-- What sorting hands back: the places, rising. -/
def KeysPost (w w0 : World) (had : Nat → Option (List UInt8)) (e : Ending) (w' : World) : Prop :=
  ∃ (v : Value) (ks : List Nat), e = .returned v ∧ ks.Pairwise (· < ·) ∧ (∀ k, k ∈ ks ↔ (had k).isSome = true) ∧ OwnV 3 w' w.heap.size v (nvs ks) ∧ Below w0.heap.size w0 w'

set_option maxHeartbeats 1000000 in
theorem sorted_any {w : World} {r n : Nat} {had : Nat → Option (List UInt8)} (h : HadAt w r n had) (hn : n ≤ 4096) :
    Calls Try.prog 28 #[.func (.func 45) #[] #[.pointer (some ⟨w.heap.size, 0, none⟩)]]
      (w.alloc (.cells #[.map (some r)] 41)) (KeysPost w (w.alloc (.cells #[.map (some r)] 41)) had) := by
  obtain ⟨D, hown, hhas, _, hlt, hkey⟩ := h
  have hsz := hown.size_le
  refine (callsIn_wide (n := 5)).1 ?_
  have hbl := hown.lt
  have hseq : SeqGives Fence.wide 2 Try.prog 45 #[.pointer (some ⟨w.heap.size, 0, none⟩)] encZ (fun ss => ss.Perm (intKeys D)) (Maps.size D) (w.alloc (.cells #[.map (some r)] 41)) :=
    AnyZI.keys_gives (ρ := Try.keysS_ren) { Try.keysS with } Fence.wide _ trivial rfl (by omega) w.heap.size r n D _ (by simp) (by simp) (by
      obtain ⟨es, clock, hb, Ft, hs, hD⟩ := hown
      exact ⟨es, clock, (Below.heap_alloc _ _ r hbl).trans hb, Ft, hs, hD⟩)
  have cS := AnyZI.sorted_in Try.sortedI Fence.wide 5 trivial trivial trivial trivial rfl (by omega) (sortsI _) (enters_of Try.func44 (by kernel_rfl) rfl) 45 #[.pointer (some ⟨w.heap.size, 0, none⟩)] trivial (enters_of Try.func45 (by kernel_rfl) rfl) _ _ (by unfold maxLen; omega) (by omega) _ hseq
  change CallsIn _ _ Try.prog 28 _ _ _ at cS
  refine cS.mono fun e w' q => ?_
  obtain ⟨v, ss, rfl, hperm, hrow, _, hb⟩ := q
  obtain ⟨es, hD, hp, hi⟩ := ownsMap_ints hown
  have hnd : (ss.mergeSort fun x y => decide (x ≤ y)).Nodup := by
    rw [(List.mergeSort_perm _ _).nodup_iff, hperm.nodup_iff, hD]
    exact keys_nodup hp hi
  have hmem : ∀ x, x ∈ (ss.mergeSort fun x y => decide (x ≤ y)) ↔ Maps.has D (.int .i64 x) = true := fun x => by
    rw [(List.mergeSort_perm _ _).mem_iff, hperm.mem_iff, hD]
    exact mem_keys hi x
  have hle : (ss.mergeSort fun x y => decide (x ≤ y)).Pairwise fun x y => decide (x ≤ y) = true :=
    List.pairwise_mergeSort (fun a b c h1 h2 => by simp only [decide_eq_true_eq] at *; omega) (fun a b => by simp only [Bool.or_eq_true, decide_eq_true_eq]; omega) ss
  have hlen : (ss.mergeSort fun x y => decide (x ≤ y)).length = ss.length := List.length_mergeSort ss
  rw [← hlen] at hrow
  generalize (ss.mergeSort fun x y => decide (x ≤ y)) = zs at hnd hmem hle hrow
  have hback : ∀ x ∈ zs, ((x.toNat : Nat) : Int) = x := fun x hx => by
    obtain ⟨k, rfl⟩ := hkey x ((hmem x).1 hx)
    simp
  have hpw : (zs.map Int.toNat).Pairwise (· < ·) := by
    rw [List.pairwise_map]
    refine (hle.and hnd).imp_of_mem fun {a b} ha hb hab => ?_
    have h1 := hback a ha
    have h2 := hback b hb
    have h3 : a ≤ b := by simpa using hab.1
    have h4 := hab.2
    omega
  refine ⟨v, zs.map Int.toNat, rfl, hpw, fun k => ?_, ?_, hb⟩
  · rw [← hhas, ← hmem, List.mem_map]
    constructor
    · rintro ⟨x, hx, rfl⟩
      rw [hback x hx]
      exact hx
    · intro hk
      exact ⟨(k : Int), hk, by simp⟩
  · have e1 : nvs (zs.map Int.toNat) = zs.map encZ := by
      rw [nvs, List.map_map]
      exact List.map_congr_left fun x hx => by simp only [Function.comp_apply, hback x hx]
    rw [e1]
    have hm : World.ownsRow w' w.heap.size 3 1 v (zs.map encZ).length (zs.map encZ) := by
      rw [List.length_map]
      refine ⟨hrow.1, ?_⟩
      rcases hrow.2 with h2 | ⟨g, cap, cur, hv, hg, r⟩
      · exact .inl h2
      · exact .inr ⟨g, cap, cur, hv, by simp at hg; omega, r⟩
    exact hm
end Go.Proofs.Ytcogglanbpphpaa
