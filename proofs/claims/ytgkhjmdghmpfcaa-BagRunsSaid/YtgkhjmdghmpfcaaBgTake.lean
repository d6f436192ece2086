/-
  A bag's Take and Double: contracts.
-/
import Derived.Test.YtgkhjmdghmpfcaaBgPut
import Derived.Deep.RegionWith
namespace Go.Proofs.Ytgkhjmdghmpfcaa
open Go.RowKit

/-- A write into a new block is none of what was there. -/
theorem Oth.fresh {X : Nat → Prop} {a w w' : World} {r : Nat} (h : Oth X a w) (hg : w.grownBy w' (some r)) (hr : a.heap.size ≤ r) : Oth X a w' :=
  ⟨hg.os.trans h.os, hg.tape.trans h.tape, hg.output.trans h.output, Nat.le_trans h.size hg.size, fun k hk hx => (hg.block k (Nat.lt_of_lt_of_le hk h.size) (by simp; omega)).trans (h.block k hk hx)⟩
set_option maxRecDepth 20000 in
set_option maxHeartbeats 1000000 in
theorem take_nil (i : Int) (w : World) : Calls Try.prog 21 #[.pointer none, .int .i64 i] w fun x w' => x = .returned (.tuple #[mval zms zv, .int .i64 3]) ∧ Below w.heap.size w w' := by
  obtain ⟨W1, a1, n1, hst⟩ := alloc_new w
  obtain ⟨W2, st, n2⟩ := hst zms zv rfl
  have HN := Lib.hid n2
  clear n1 hst n2
  go_enter Try.func21, Try.ntmps21
  go_wp2_with (first | (refine wpList_alloc_run a1 rfl rfl ?_) | (refine wpList_store_run st rfl _ _ rfl rfl rfl ?_))
  refine bodyPost_ret (results_mt rfl _ _ w.heap.size _ _ _ rfl HN.out.whole Try.underlying47 rfl (by rw [mcs_len]; exact sizeMs)) rfl ?_
  exact ⟨rfl, HN.out.below⟩
set_option maxRecDepth 20000 in
set_option maxHeartbeats 1000000 in
theorem take_no {w : World} {p base room : Nat} {v : Value} {l : List (Ms × Value)} (h : BagAt w p base room v l) {i : Int} (hi : i < 0 ∨ (l.length : Int) ≤ i) :
    Calls Try.prog 21 #[.pointer (some ⟨p, 0, none⟩), .int .i64 i] w fun x w' => x = .returned (.tuple #[mval zms zv, .int .i64 120]) ∧ Below w.heap.size w w' := by
  obtain ⟨W1, a1, n1, -⟩ := alloc_new w
  have HAt := at_no (h.below n1.below) hi
  have HN := Lib.hid n1
  clear h hi n1
  go_enter Try.func21, Try.ntmps21
  go_wp2_with (first | (refine wpList_alloc_run a1 rfl rfl ?_) | (go_at_call 30; refine HAt.mono ?_; rintro e W2 ⟨rfl, b2⟩; obtain ⟨W3, a3, n3, hst⟩ := alloc_new W2; obtain ⟨W4, st4, n4⟩ := hst zms zv rfl; have b24 := b2.trans (n4.below.mono b2.size); obtain ⟨W5, st5, k5, g5⟩ := store_ms (HN.out.whole.below b24) (mcs_len _ _) (m := zms) (e := zv) rfl; have HK := Lib.hid k5; have HB := Lib.hid (below_grown (HN.out.below.trans (b24.mono HN.out.below.size)) g5 (Nat.le_trans HN.out.below.size b24.size) (Nat.le_refl _)); clear b2 n3 hst n4 b24 k5 g5) | (refine wpList_alloc_run a3 rfl rfl ?_) | (refine wpList_store_run st4 rfl _ _ rfl rfl rfl ?_) | (refine wpList_store_run st5 rfl _ _ rfl rfl rfl ?_))
  refine bodyPost_ret (results_mt rfl _ _ w.heap.size _ _ _ rfl HK.out Try.underlying47 rfl (by rw [mcs_len]; exact sizeMs)) rfl ?_
  exact ⟨rfl, HB.out⟩
set_option maxRecDepth 20000 in
set_option maxHeartbeats 1000000 in
theorem take_yes {w : World} {p base room : Nat} {v : Value} {l : List (Ms × Value)} (h : BagAt w p base room v l) {i : Nat} {q : Ms × Value} (hq : l[i]? = some q) :
    Calls Try.prog 21 #[.pointer (some ⟨p, 0, none⟩), .int .i64 (i : Int)] w fun x w' => x = .returned (.tuple #[mval q.1 q.2, .int .i64 0]) ∧ DropPost w p base room v (l.eraseIdx i) w' := by
  obtain ⟨m, e⟩ := q
  have hil : i < l.length := (List.getElem?_eq_some_iff.1 hq).1
  have he1 : e.oneCell' = true := (h.ents _ (List.mem_of_getElem? hq)).msg.one
  obtain ⟨W1, a1, n1, -⟩ := alloc_new w
  have HAt := at_yes (h.below n1.below) hq
  have HN := Lib.hid n1
  have Hh := Lib.hid h
  have Hil := Lib.hid hil
  clear hq n1 h hil
  go_enter Try.func21, Try.ntmps21
  go_upto_region 6 with (first | (refine wpList_alloc_run a1 rfl rfl ?_) | (go_at_call 30; refine HAt.mono ?_; rintro x W2 ⟨rfl, b2⟩; obtain ⟨W3, a3, n3, hst⟩ := alloc_new W2; obtain ⟨W4, st4, n4⟩ := hst m e he1; have HN4 := Lib.hid n4; have HB2 := Lib.hid b2; clear n3 hst n4 b2) | (refine wpList_alloc_run a3 rfl rfl ?_) | (refine wpList_store_run st4 rfl _ _ rfl rfl rfl ?_))
  clear HAt a1 a3 st4
  have b24 := HB2.out.trans (HN4.out.below.mono HB2.out.size)
  have HB4 := Lib.hid (HN.out.below.trans (b24.mono HN.out.below.size))
  have HBag4 := Lib.hid (Hh.out.below HB4.out)
  have HK1 := Lib.hid (HN.out.whole.below b24)
  have hs1 := HN.out.size
  have hs2 := HB2.out.size
  have hs4 := HN4.out.size
  have HDr := drop_any HBag4.out Hil.out
  go_upto_region 7 with (go_at_call 31; refine HDr.mono ?_; rintro x W5 ⟨rfl, v', hb5, ho5, hv5⟩)
  have hlt2 : w.heap.size ≤ W2.heap.size := by omega
  have hpl := Hh.out.ptr.lt
  have hvl : ∀ k, v.ownBlock = some k → k < w.heap.size := fun k hk => (World.ownsRow.lt Hh.out.row k hk).2
  have kk2 : Whole W5 W2.heap.size 47 (mcs m e) := HN4.out.whole.keep (ho5.block _ HN4.out.whole.lt (by
    rintro (c | c)
    · omega
    · have := hvl _ c; omega))
  have kk1 : Whole W5 w.heap.size 47 (mcs zms zv) := HK1.out.keep (ho5.block _ HK1.out.lt (by
    rintro (c | c)
    · omega
    · have := hvl _ c; omega))
  have ld := load_box kk2
  obtain ⟨W6, st6, k6, g6⟩ := store_ms kk1 (mcs_len _ _) (m := m) (e := e) he1
  have HK6 := Lib.hid k6
  have HO6 := Lib.hid (((Oth.of_below HB4.out (bX p v)).trans ho5).fresh g6 (Nat.le_refl _))
  have HBag6 := Lib.hid (show BagAt W6 p base room v' (l.eraseIdx i) from hb5.oth (Oth.of_grown (X := fun k => k = w.heap.size) g6 rfl) (by omega) (fun k hk c => by
    rw [hv5] at hk
    have := hvl k hk
    omega) (fun q hq k hk c => by
    have := (World.ownsRow.lt (Hh.out.ents q (List.mem_of_mem_eraseIdx hq)) k hk).2
    omega))
  clear hb5 ho5 kk1 kk2 k6 g6 HDr hs1 hs2 hs4 hlt2 hpl hvl b24 he1
  go_wp2_with (first | (refine wpList_load_run ld rfl _ rfl rfl ?_) | (refine wpList_store_run st6 rfl _ _ rfl rfl rfl ?_))
  refine bodyPost_ret (results_mt rfl _ _ w.heap.size _ _ _ rfl HK6.out Try.underlying47 rfl (by rw [mcs_len]; exact sizeMs)) rfl ?_
  exact ⟨rfl, v', HBag6.out, HO6.out, hv5⟩
end Go.Proofs.Ytgkhjmdghmpfcaa
