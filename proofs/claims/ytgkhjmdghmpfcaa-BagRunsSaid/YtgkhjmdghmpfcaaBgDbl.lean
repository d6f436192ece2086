/-
  A bag's Double: contract.
-/
import Derived.Test.YtgkhjmdghmpfcaaBgTake
import Derived.Test.YtgkhjmdghmpfcaaAnyArm
namespace Go.Proofs.Ytgkhjmdghmpfcaa
open Go.RowKit

/-- What comes behind the last one: messages in memory of their own. -/
def AddsPost (w : World) (p base room : Nat) (v : Value) (l : List (Ms × Value)) (ns : List Ms) (w' : World) : Prop :=
  ∃ os v', names os = ns ∧ BagAt w' p base room v' (lastN room (l ++ os)) ∧ Oth (bX p v) w w' ∧ (v'.ownBlock = v.ownBlock ∨ ∃ k, v'.ownBlock = some k ∧ w.heap.size ≤ k) ∧ ∀ q ∈ os, OwnE w' w.heap.size q.2 q.1.es
set_option maxHeartbeats 400000 in
theorem dbl_nil (i : Int) (w : World) : Calls Try.prog 22 #[.pointer none, .int .i64 i] w fun x w' => x = .returned (.int .i64 3) ∧ w' = w := by
  go_enter Try.func22, Try.ntmps22
  go_wp2
  go_ret
  exact ⟨rfl, rfl⟩
set_option maxRecDepth 20000 in
set_option maxHeartbeats 1000000 in
theorem dbl_no {w : World} {p base room : Nat} {v : Value} {l : List (Ms × Value)} (h : BagAt w p base room v l) {i : Int} (hi : i < 0 ∨ (l.length : Int) ≤ i) :
    Calls Try.prog 22 #[.pointer (some ⟨p, 0, none⟩), .int .i64 i] w fun x w' => x = .returned (.int .i64 120) ∧ Below w.heap.size w w' := by
  have HAt := at_no h hi
  clear h hi
  go_enter Try.func22, Try.ntmps22
  go_wp2_with (first | (go_at_call 30; refine HAt.mono ?_; rintro e W2 ⟨rfl, b2⟩; obtain ⟨W3, a3, n3, hst⟩ := alloc_new W2; obtain ⟨W4, st4, n4⟩ := hst zms zv rfl; have HB := Lib.hid (b2.trans (n4.below.mono b2.size)); clear b2 n3 hst n4) | (refine wpList_alloc_run a3 rfl rfl ?_) | (refine wpList_store_run st4 rfl _ _ rfl rfl rfl ?_))
  go_ret
  exact ⟨rfl, HB.out⟩
set_option maxRecDepth 20000 in
set_option maxHeartbeats 2000000 in
theorem dbl_yes {w : World} {p base room : Nat} {v : Value} {l : List (Ms × Value)} (h : BagAt w p base room v l) {i : Nat} {q : Ms × Value} (hq : l[i]? = some q) :
    Calls Try.prog 22 #[.pointer (some ⟨p, 0, none⟩), .int .i64 (i : Int)] w fun x w' => x = .returned (.int .i64 0) ∧ AddsPost w p base room v l [q.1] w' := by
  obtain ⟨m, e⟩ := q
  have hmem := List.mem_of_getElem? hq
  have hms := (h.ents _ hmem).msg
  have hsm := h.small _ hmem
  have HAt := at_yes h hq
  have Hh := Lib.hid h
  have HMs := Lib.hid hms
  have HSm := Lib.hid hsm
  have he1 : e.oneCell' = true := hms.one
  clear hq h hmem hms hsm
  go_enter Try.func22, Try.ntmps22
  go_upto_region 6 with (first | (go_at_call 30; refine HAt.mono ?_; rintro x W2 ⟨rfl, b2⟩; obtain ⟨W3, a3, n3, hst⟩ := alloc_new W2; obtain ⟨W4, st4, n4⟩ := hst m e he1; have HN4 := Lib.hid n4; have HB2 := Lib.hid b2; clear n3 hst n4 b2) | (refine wpList_alloc_run a3 rfl rfl ?_) | (refine wpList_store_run st4 rfl _ _ rfl rfl rfl ?_))
  have HB4 := Lib.hid (HB2.out.trans (HN4.out.below.mono HB2.out.size))
  clear HAt a3 st4 he1
  have HK := Lib.hid HN4.out.whole
  have HBag := Lib.hid (Hh.out.below HB4.out)
  have HM4 := Lib.hid (HMs.out.below HB4.out)
  have eg : ∀ args w, (callFunc 26 args).run Try.prog w = .ok (.enter 26 args) w := enters_of Try.func26 (by kernel_rfl) rfl
  have ea : ∀ args w, (callFunc 29 args).run Try.prog w = .ok (.enter 29 args) w := enters_of Try.func29 (by kernel_rfl) rfl
  have mixed : Try.prog.follows .mixedOrders = true := by kernel_rfl
  have ld := load_box HK.out.drew
  have HC := copyOf_any m e W4.drew HM4.out.drew HSm.out
  refine wp_region_any mixed ?_
  refine any_pure (i := 0) (d := 19) (v := .pointer (some ⟨p, 0, none⟩)) rfl rfl rfl (by kernel_rfl) (by kernel_rfl) (by kernel_rfl) (fun _ _ _ h => h) (fun W => rfl) ?_
  simp only [List.setIfInBounds_toArray, List.set_cons_zero, List.set_cons_succ]
  refine any_pure (i := 1) (d := 20) (v := .pointer (some ⟨p, 0, none⟩)) rfl rfl rfl (by kernel_rfl) (by kernel_rfl) (by kernel_rfl) (fun _ _ _ h => h) (fun W => rfl) ?_
  simp only [List.setIfInBounds_toArray, List.set_cons_zero, List.set_cons_succ]
  refine any_pure (i := 2) (d := 21) (v := .pointer (some ⟨p, 0, none⟩)) rfl rfl rfl (by kernel_rfl) (by kernel_rfl) (by kernel_rfl) (fun _ _ _ h => h) (fun W => by simp only [execOp]; go_simp) ?_
  simp only [List.setIfInBounds_toArray, List.set_cons_zero, List.set_cons_succ]
  refine any_value (i := 3) (d := 22) rfl rfl rfl (by kernel_rfl) (exec_load rfl ld) ?_
  simp only [List.setIfInBounds_toArray, List.set_cons_zero, List.set_cons_succ]
  refine any_call (i := 4) (vs := #[mval m e]) eg rfl (by kernel_rfl) rfl HC ?_
  rintro x W5 ⟨ve, rfl, hE5, b5⟩
  obtain ⟨W6, sl, n6, r6⟩ := slice_new W5 m (e := ve) (OwnE.msg (p := (m, ve)) hE5)
  refine ⟨_, rfl, ?_⟩
  simp only [List.setIfInBounds_toArray, List.set_cons_zero, List.set_cons_succ]
  refine any_value (i := 5) (d := 24) (v := .slice (some ⟨W5.heap.size, 0, none⟩) 1 1) (w' := W6) rfl rfl rfl (by kernel_rfl) (exec_slice1 (o := .tmp 23) (x := mval m ve) rfl sl) ?_
  simp only [List.setIfInBounds_toArray, List.set_cons_zero, List.set_cons_succ]
  have bd : Below W4.heap.size W4 W4.drew := (Below.refl _ _).drew
  have b46 : Below W4.heap.size W4 W6 := (bd.trans b5).trans (n6.below.mono b5.size)
  have hbag6 := HBag.out.below b46
  have hE6 : OwnE W6 W4.drew.heap.size ve m.es := OwnE.below hE5 n6.below
  have hsz4 : W4.drew.heap.size = W4.heap.size := rfl
  have hwz : w.heap.size ≤ W4.heap.size := HB4.out.size
  have hbz := Hh.out.size
  have hAdd := add_any (m := 1) (c := 1) hbag6 r6 (Nat.le_refl _) (fun q hq => by rw [List.mem_singleton.1 hq]; exact hE6.mono (by omega)) (fun q hq => by rw [List.mem_singleton.1 hq]; exact HSm.out) (fun a ha => by
    injection ha with ha
    subst ha
    have h5 : W4.heap.size ≤ W5.heap.size := b5.size
    rintro (c | c)
    · have := Hh.out.ptr.lt
      simp only at c
      omega
    · have := (World.ownsRow.lt Hh.out.row _ c).2
      simp only at this
      omega) (by omega)
  refine any_call (i := 6) (vs := #[.pointer (some ⟨p, 0, none⟩), .slice (some ⟨W5.heap.size, 0, none⟩) 1 1]) ea rfl (by kernel_rfl) rfl hAdd ?_
  rintro x W7 ⟨rfl, v', hb7, hO7, hv7⟩
  refine ⟨_, rfl, ?_⟩
  simp only [List.setIfInBounds_toArray, List.set_cons_zero, List.set_cons_succ]
  refine wpAny_done (by kernel_rfl) ?_ _
  have HF := Lib.hid (show AddsPost w p base room v l [m] W7 from by
    refine ⟨[(m, ve)], v', rfl, hb7, ((Oth.of_below HB4.out _).trans (Oth.of_below b46 _)).trans hO7, ?_, fun q hq => ?_⟩
    · rcases hv7 with c | ⟨k, c, hk⟩
      · exact .inl c
      · exact .inr ⟨k, c, Nat.le_trans hwz (Nat.le_trans b46.size hk)⟩
    · rw [List.mem_singleton.1 hq]
      exact (hE6.mono (by omega)).oth hO7 fun k hk => hbag6.eX hE6 hk)
  clear hAdd hb7 hO7 hv7 hE6 hbag6 b46 bd sl n6 r6 hE5 b5 HC ld eg ea mixed
  go_wp2
  go_ret
  exact ⟨rfl, HF.out⟩
end Go.Proofs.Ytgkhjmdghmpfcaa
