/-
  A bag's Put: contract.
-/
import Derived.Test.YtgkhjmdghmpfcaaBgAll
namespace Go.Proofs.Ytgkhjmdghmpfcaa
open Go.RowKit

theorem real_snoc_yes {l : List Ms} {m : Ms} (h : m.k ≠ 0) : real (l ++ [m]) = real l ++ [m] := by simp [real, h]
theorem real_snoc_no {l : List Ms} {m : Ms} (h : m.k = 0) : real (l ++ [m]) = real l := by simp [real, h]
theorem real_len (l : List Ms) : (real l).length ≤ l.length := List.length_filter_le _ _
def PutRel (w : World) (l : List (Ms × Value)) (acc i : Value) (wr : World) : Prop := ∃ (k : Nat) (os : List (Ms × Value)), k ≤ l.length ∧ i = .int .i64 (k : Int) ∧ names os = real ((names l).take k) ∧ OwnMs wr w.heap.size acc os ∧ Below w.heap.size w wr
def PutPost (w : World) (p base room : Nat) (v : Value) (l : List (Ms × Value)) (ms : List Ms) (w' : World) : Prop :=
  ∃ os v', names os = real ms ∧ BagAt w' p base room v' (lastN room (l ++ os)) ∧ Oth (bX p v) w w' ∧ (v'.ownBlock = v.ownBlock ∨ ∃ k, v'.ownBlock = some k ∧ w.heap.size ≤ k) ∧ ∀ q ∈ os, OwnE w' w.heap.size q.2 q.1.es
set_option maxHeartbeats 400000 in
theorem put_nil (A : Option Addr) (n c : Nat) (w : World) : Calls Try.prog 20 #[.pointer none, .slice A n c] w fun e w' => e = .returned (.int .i64 3) ∧ w' = w := by
  go_enter Try.func20, Try.ntmps20
  go_wp2
  go_ret
  exact ⟨rfl, rfl⟩
set_option maxRecDepth 20000 in
set_option maxHeartbeats 2000000 in
theorem put_any {w : World} {p base room : Nat} {v : Value} {l ms : List (Ms × Value)} {A : Option Addr} {n c : Nat} (h : BagAt w p base room v l) (hr : RdM w A n ms) (hn : n ≤ 1000) (hsm : ∀ q ∈ ms, SmallM q.1) :
    Calls Try.prog 20 #[.pointer (some ⟨p, 0, none⟩), .slice A n c] w fun e w' => e = .returned (.int .i64 0) ∧ PutPost w p base room v l (names ms) w' := by
  have Hh := Lib.hid h
  have HR := Lib.hid hr
  have HN := Lib.hid hr.len
  have Hsm := Lib.hid hsm
  clear h hr hsm
  go_enter Try.func20, Try.ntmps20
  go_wp2
  go_loopw [5, 12] (PutRel w ms) (fun _ i _ => n - (Go.RowKit.intOf i).toNat)
  case atStart => exact ⟨0, [], Nat.zero_le _, rfl, by simp [names, real], OwnMs.nil, Below.refl _ _⟩
  case round =>
    obtain ⟨k, os, hk, rfl, hos, hO, hb⟩ := hrel
    by_cases hlt : k < n
    · obtain ⟨b, off, ⟨m, e⟩, rfl, hbl, hx, hm, hc⟩ := (HR.out.below hb).get hlt
      obtain ⟨W1, a1, n1, hst⟩ := alloc_new wr
      obtain ⟨W2, st, n2⟩ := hst m e hm.one
      have ld1 := load_ms hc
      have ld2 := load_box n2.whole
      have k0 : W2.cell? ⟨wr.heap.size, 0, none⟩ = some (.int .i64 m.k) := n2.whole.cell 0
      have hol : os.length ≤ k := by have := congrArg List.length hos; rw [names_len] at this; rw [this]; exact Nat.le_trans (real_len _) (by rw [List.length_take]; exact Nat.min_le_left _ _)
      have HC := copyOf_any m e W2 (hm.below n2.below) (Hsm.out (m, e) (List.mem_of_getElem? hx))
      have HA := Lib.hid (fun (W3 : World) (b3 : Below W2.heap.size W2 W3) (ve : Value) (hv1 : ve.oneCell' = true) (h1 : os.length + 1 ≤ 1000000) (h2 : w.heap.size ≤ W3.heap.size) => app_new (row_below hO.row (n2.below.trans (b3.mono n2.below.size))) m hv1 h1 h2)
      have HO2 := Lib.hid (fun (W3 : World) (b3 : Below W2.heap.size W2 W3) => hO.below (n2.below.trans (b3.mono n2.below.size)))
      have HBB := Lib.hid (show Below w.heap.size w W2 from hb.trans (n2.below.mono hb.size))
      have Hos := Lib.hid hos
      have Hx := Lib.hid (names_get hx)
      have Hol := Lib.hid hol
      have hki : (k : Int) < (n : Int) := by omega
      clear hst n1 n2 hc hm hx hO hb hos hbl hk hol
      go_upto_region 7 with (first | (refine wpList_alloc_run a1 rfl rfl ?_) | (refine wpList_load_run ld1 rfl _ rfl rfl ?_) | (refine wpList_store_run st rfl _ _ rfl rfl rfl ?_))
      clear a1 ld1 st
      by_cases hm0 : m.k = 0
      · have hne : (m.k != 0) = false := by simp [hm0]
        have hne2 : decide (m.k = 0) = true := by simp [hm0]
        have HO3 := Lib.hid (HO2.out W2 (Below.refl _ _))
        have Hn := Lib.hid (show names os = real ((names ms).take (k + 1)) by rw [take_snoc Hx.out, real_snoc_no hm0]; exact Hos.out)
        clear HC HA HO2 hm0 ld2
        go_wp2
        go_roundw
        case rel => exact ⟨k + 1, os, by have := HN.out; omega, by go_num, Hn.out, HO3.out, HBB.out⟩
        case measure => simp [Go.RowKit.intOf]; omega
      · have hne : (m.k != 0) = true := by simp [hm0]
        have hne2 : decide (m.k = 0) = false := by simp [hm0]
        have Hn := Lib.hid (show names os ++ [m] = real ((names ms).take (k + 1)) by rw [take_snoc Hx.out, real_snoc_yes hm0, Hos.out])
        clear hm0
        go_upto_region 8 with (fail)
        have eg : ∀ args w, (callFunc 26 args).run Try.prog w = .ok (.enter 26 args) w := enters_of Try.func26 (by kernel_rfl) rfl
        refine wp_region_list ?_
        refine wpList_pure (v := u5) rfl rfl ?_
        simp only [Act.put, List.setIfInBounds_toArray, List.set_cons_zero, List.set_cons_succ]
        refine wpList_load_run ld2 rfl _ rfl rfl ?_
        simp only [Act.put, List.setIfInBounds_toArray, List.set_cons_zero, List.set_cons_succ]
        refine wpList_call_run (vs := #[mval m e]) eg rfl HC ?_
        rintro x W3 ⟨ve, rfl, hE3, b3⟩
        refine ⟨_, rfl, ?_⟩
        simp only [Act.put, List.setIfInBounds_toArray, List.set_cons_zero, List.set_cons_succ]
        obtain ⟨W4, v5, W5, sl, ap, hrow5, hg5, -⟩ := HA.out W3 b3 ve (row_one hE3) (by have := Hol.out; omega) (by have := HBB.out.size; have := b3.size; omega)
        refine wpList_slice1_run sl rfl _ rfl rfl ?_
        simp only [Act.put, List.setIfInBounds_toArray, List.set_cons_zero, List.set_cons_succ]
        refine wpList_append_run ap rfl _ _ rfl rfl rfl rfl ?_
        simp only [Act.put, List.setIfInBounds_toArray, List.set_cons_zero, List.set_cons_succ]
        refine wpList_pure (v := v5) rfl rfl (wpList_nil ?_)
        have hos5 := (HO2.out W3 b3).snoc (m := m) (e := ve) (hE3.mono (by have := HBB.out.size; omega)) hrow5 hg5
        simp only [Act.put, List.setIfInBounds_toArray, List.set_cons_zero, List.set_cons_succ]
        have hB5 : Below w.heap.size w W5 := (HBB.out.trans (b3.mono HBB.out.size)).grown hg5 (by have := HBB.out.size; have := b3.size; omega) fun k hk => (World.ownsRow.lt (HO2.out W3 b3).row k hk).1
        have HO5 := Lib.hid hos5
        have HB5 := Lib.hid hB5
        clear hos5 hB5 hE3 b3 hrow5 hg5 ap sl HC eg ld2 hne hne2 k0
        go_wp2
        go_roundw
        case rel => exact ⟨k + 1, os ++ [(m, ve)], by have := HN.out; omega, by go_num, by rw [← Hn.out]; simp [names], HO5.out, HB5.out⟩
        case measure => simp [Go.RowKit.intOf]; omega
    · obtain rfl : k = n := by have := HN.out; omega
      have HF := Lib.hid (show names os = real (names ms) by rw [hos, List.take_of_length_le (by rw [names_len]; have := HN.out; omega)])
      obtain ⟨B, cb, hacc, hcb, hrd, hbk⟩ := hO.rd
      have hlen : os.length ≤ 1000 := by have h1 := congrArg List.length HF.out; rw [names_len] at h1; have h2 := real_len (names ms); rw [names_len, HN.out] at h2; omega
      have hbag := Hh.out.below hb
      have hsz := Hh.out.size
      have hem : ∀ q ∈ os, SmallM q.1 := fun q hq => by
        have h1 : q.1 ∈ names os := List.mem_map_of_mem hq
        rw [HF.out] at h1
        have h2 := (List.mem_filter.1 h1).1
        obtain ⟨q', hq', e⟩ := List.mem_map.1 h2
        rw [← e]
        exact Hsm.out q' hq'
      have hfresh : ∀ k, u5.ownBlock = some k → w.heap.size ≤ k := fun k hk => (World.ownsRow.lt hO.row k hk).1
      have HAdd := add_any hbag hrd hcb (fun q hq => (hO.ents q hq).mono hsz) hem (fun a ha => by
        have hab : u5.ownBlock = some a.block := by rw [hacc, ha]; rfl
        have h1 := hfresh _ hab
        rintro (e | e)
        · have := Hh.out.ptr.lt; omega
        · have := (World.ownsRow.lt Hh.out.row _ e).2; omega) hlen
      have HOs := Lib.hid hO.ents
      have HB := Lib.hid hb
      have HAD := Lib.hid HAdd
      clear hos hO hb hrd hcb hlen hbk hem hfresh HAdd hsz
      subst hacc
      have c1 := hbag
      clear c1
      go_wp2_with (go_at_call 29; refine HAD.out.mono ?_; rintro e w2 ⟨rfl, HP⟩)
      go_ret
      obtain ⟨v', hb', hO', hv'⟩ := HP
      refine ⟨rfl, os, v', HF.out, hb', (Oth.of_below HB.out _).trans hO', ?_, fun q hq => (HOs.out q hq).oth hO' fun k hk => hbag.eX (HOs.out q hq) hk⟩
      rcases hv' with e | ⟨k, e, hk⟩
      · exact .inl e
      · exact .inr ⟨k, e, Nat.le_trans HB.out.size hk⟩
end Go.Proofs.Ytgkhjmdghmpfcaa
