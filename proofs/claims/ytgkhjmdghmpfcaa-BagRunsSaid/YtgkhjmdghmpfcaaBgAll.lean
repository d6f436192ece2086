/-
  Rows of messages of the call's own; a bag's All and Put: contracts.
-/
import Derived.Test.YtgkhjmdghmpfcaaBgRow2
namespace Go.Proofs.Ytgkhjmdghmpfcaa
open Go.RowKit

/-- Messages in a row of the call's own, their entries in rows of their own. -/
structure OwnMs (w : World) (base : Nat) (v : Value) (l : List (Ms × Value)) : Prop where
  row : w.ownsRow base 47 23 v l.length (mcl l)
  ents : ∀ q ∈ l, OwnE w base q.2 q.1.es
section
variable {w w' : World} {base : Nat} {v v' : Value} {l : List (Ms × Value)}
theorem OwnMs.nil : OwnMs w base (.slice none 0 0) [] := ⟨World.ownsRow_nil _ _ _ _, fun q hq => by cases hq⟩
theorem OwnMs.below (h : OwnMs w base v l) (hb : Below w.heap.size w w') : OwnMs w' base v l := ⟨row_below h.row hb, fun q hq => (h.ents q hq).below hb⟩
theorem OwnMs.oth {X : Nat → Prop} (h : OwnMs w base v l) (hO : Oth X w w') (hv : ∀ k, v.ownBlock = some k → ¬ X k) (he : ∀ q ∈ l, ∀ k, q.2.ownBlock = some k → ¬ X k) : OwnMs w' base v l := ⟨row_oth h.row hO hv, fun q hq => (h.ents q hq).oth hO (he q hq)⟩
theorem OwnMs.mono (h : OwnMs w base v l) {base' : Nat} (hb : base' ≤ base) : OwnMs w base' v l := ⟨row_mono h.row hb, fun q hq => (h.ents q hq).mono hb⟩
theorem OwnMs.rd (h : OwnMs w base v l) : ∃ A c, v = .slice A l.length c ∧ l.length ≤ c ∧ RdM w A l.length l ∧ ∀ b off, A = some ⟨b, off, none⟩ → v.ownBlock = some b := by
  obtain ⟨A, c, e, h1, _, r, hb⟩ := row_rd h.row
  exact ⟨A, c, e, h1, ⟨rfl, r, fun q hq => (h.ents q hq).msg⟩, hb⟩
theorem OwnMs.snoc (h : OwnMs w base v l) {m : Ms} {e : Value} (hq : OwnE w base e m.es) (hrow : w'.ownsRow base 47 23 v' (l.length + 1) (mcl l ++ mcs m e)) (hg : w.grownBy w' v.ownBlock) : OwnMs w' base v' (l ++ [(m, e)]) := by
  have key : ∀ {e' : Value} {es : List En}, OwnE w base e' es → OwnE w' base e' es := fun {e' es} hE => row_keep hE fun k hk => hg.block k (World.ownsRow.lt hE k hk).2 fun c => rows_apart hE h.row (by decide) hk c.symm
  refine ⟨by rw [List.length_append, mcl_append]; simpa [mcl, mcc] using hrow, fun q hq' => ?_⟩
  rcases List.mem_append.1 hq' with h' | h'
  · exact key (h.ents q h')
  · rw [List.mem_singleton.1 h']
    exact key hq
end
def AlbRel (w : World) (l : List (Ms × Value)) (acc i : Value) (wr : World) : Prop := ∃ (k : Nat) (os : List (Ms × Value)), k ≤ l.length ∧ i = .int .i64 (k : Int) ∧ names os = (names l).take k ∧ OwnMs wr w.heap.size acc os ∧ Below w.heap.size w wr
def AllbPost (w : World) (l : List (Ms × Value)) (e : Ending) (w' : World) : Prop := ∃ v os, e = .returned v ∧ names os = names l ∧ OwnMs w' w.heap.size v os ∧ Below w.heap.size w w'
set_option maxRecDepth 20000 in
set_option maxHeartbeats 2000000 in
theorem allb_any {w : World} {p base room : Nat} {v : Value} {l : List (Ms × Value)} (h : BagAt w p base room v l) : Calls Try.prog 13 #[.pointer (some ⟨p, 0, none⟩)] w (AllbPost w l) := by
  obtain ⟨B, cb, hv, -, -, hr, -⟩ := h.rd
  have c1 := h.ptr.cell 1
  rw [hv] at c1
  simp only [List.getElem?_cons_succ, List.getElem?_cons_zero] at c1
  have hn : l.length ≤ 200 := Nat.le_trans h.len h.hi
  have Hsm := Lib.hid h.small
  obtain ⟨n, hnn⟩ : ∃ n, n = l.length := ⟨_, rfl⟩
  rw [← hnn] at c1 hr hn
  have HR := Lib.hid hr
  have HN := Lib.hid hnn
  clear h hv hr hnn
  go_enter Try.func13, Try.ntmps13
  go_wp2
  go_loopw [3, 14] (AlbRel w l) (fun _ i _ => n - (Go.RowKit.intOf i).toNat)
  case atStart => exact ⟨0, [], Nat.zero_le _, rfl, by simp [names], OwnMs.nil, Below.refl _ _⟩
  case round =>
    obtain ⟨k, os, hk, rfl, hos, hO, hb⟩ := hrel
    by_cases hlt : k < n
    · obtain ⟨b, off, ⟨m, e⟩, rfl, hbl, hx, hm, hc⟩ := (HR.out.below hb).get hlt
      obtain ⟨W1, a1, n1, hst⟩ := alloc_new wr
      obtain ⟨W2, st, n2⟩ := hst m e hm.one
      have ld1 := load_ms hc
      have ld2 := load_box n2.whole
      have hol : os.length = k := by have := congrArg List.length hos; rw [names_len, List.length_take, names_len] at this; have := HN.out; omega
      have HC := copyOf_any m e W2 (hm.below n2.below) (Hsm.out (m, e) (List.mem_of_getElem? hx))
      have HA := Lib.hid (fun (W3 : World) (b3 : Below W2.heap.size W2 W3) (ve : Value) (hv1 : ve.oneCell' = true) (h1 : os.length + 1 ≤ 1000000) (h2 : w.heap.size ≤ W3.heap.size) => app_new (row_below hO.row (n2.below.trans (b3.mono n2.below.size))) m hv1 h1 h2)
      have HO2 := Lib.hid (fun (W3 : World) (b3 : Below W2.heap.size W2 W3) => hO.below (n2.below.trans (b3.mono n2.below.size)))
      have HBB := Lib.hid (show Below w.heap.size w W2 from hb.trans (n2.below.mono hb.size))
      have Hos := Lib.hid hos
      have Hx := Lib.hid (names_get hx)
      have Hol := Lib.hid hol
      have hki : (k : Int) < (n : Int) := by omega
      clear hst n1 n2 hc hm hx hO hb hos hbl hk hol c1
      go_upto_region 7 with (first | (refine wpList_alloc_run a1 rfl rfl ?_) | (refine wpList_load_run ld1 rfl _ rfl rfl ?_) | (refine wpList_store_run st rfl _ _ rfl rfl rfl ?_))
      clear a1 ld1 st
      have eg : ∀ args w, (callFunc 26 args).run Try.prog w = .ok (.enter 26 args) w := enters_of Try.func26 (by kernel_rfl) rfl
      refine wp_region_list ?_
      refine wpList_pure (v := u3) rfl rfl ?_
      simp only [Act.put, List.setIfInBounds_toArray, List.set_cons_zero, List.set_cons_succ]
      refine wpList_load_run ld2 rfl _ rfl rfl ?_
      simp only [Act.put, List.setIfInBounds_toArray, List.set_cons_zero, List.set_cons_succ]
      refine wpList_call_run (vs := #[mval m e]) eg rfl HC ?_
      rintro x W3 ⟨ve, rfl, hE3, b3⟩
      refine ⟨_, rfl, ?_⟩
      simp only [Act.put, List.setIfInBounds_toArray, List.set_cons_zero, List.set_cons_succ]
      obtain ⟨W4, v5, W5, sl, ap, hrow5, hg5, -⟩ := HA.out W3 b3 ve (row_one hE3) (by have := Hol.out; omega) (by have := HBB.out.size; have := b3.size; omega)
      refine wpList_slice1_run sl rfl _ rfl rfl ?_
      simp only [Act.put, List.setIfInBounds_toArray, List.set_cons_zero, List.set_cons_succ]
      refine wpList_append_run ap rfl _ _ rfl rfl rfl rfl ?_
      simp only [Act.put, List.setIfInBounds_toArray, List.set_cons_zero, List.set_cons_succ]
      refine wpList_pure (v := v5) rfl rfl (wpList_nil ?_)
      have hos5 := (HO2.out W3 b3).snoc (m := m) (e := ve) (hE3.mono (by have := HBB.out.size; omega)) hrow5 hg5
      simp only [Act.put, List.setIfInBounds_toArray, List.set_cons_zero, List.set_cons_succ]
      have hB5 : Below w.heap.size w W5 := (HBB.out.trans (b3.mono HBB.out.size)).grown hg5 (by have := HBB.out.size; have := b3.size; omega) fun k hk => (World.ownsRow.lt (HO2.out W3 b3).row k hk).1
      have HO5 := Lib.hid hos5
      have HB5 := Lib.hid hB5
      clear hos5 hB5 hE3 b3 hrow5 hg5 ap sl HC eg ld2
      go_wp2
      go_roundw
      case rel => exact ⟨k + 1, os ++ [(m, ve)], by have := HN.out; omega, by go_num, by rw [take_snoc Hx.out, ← Hos.out]; simp [names], HO5.out, HB5.out⟩
      case measure => simp [Go.RowKit.intOf]; omega
    · obtain rfl : k = n := by have := HN.out; omega
      have HF := Lib.hid (show names os = names l by rw [hos]; exact List.take_of_length_le (by rw [names_len]; have := HN.out; omega))
      have HO := Lib.hid hO
      have HB := Lib.hid hb
      clear hos hO hb
      go_wp2
      go_ret
      exact ⟨_, os, rfl, HF.out, HO.out, HB.out⟩
end Go.Proofs.Ytgkhjmdghmpfcaa
