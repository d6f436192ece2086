/-
  The document's Put: contract.
-/
import Derived.Test.YtgkhjmdghmpfcaaBgLawD
namespace Go.Proofs.Ytgkhjmdghmpfcaa
open Go.RowKit
theorem wrap64_id {x : Int} (h1 : -9223372036854775808 ≤ x) (h2 : x < 9223372036854775808) : wrap64 x = x := by unfold wrap64; omega
/-- The document's row while it grows: the old one's messages as they are, the new ones with entries of their own. -/
def RPut (w wr : World) (v : Value) (l os : List (Ms × Value)) : Prop := wr.ownsRow w.heap.size 47 23 v (l.length + os.length) (mcl (l ++ os)) ∧ ∀ q ∈ os, OwnE wr w.heap.size q.2 q.1.es
def RPRel (w : World) (l ms : List (Ms × Value)) (acc i : Value) (wr : World) : Prop := ∃ (k : Nat) (os : List (Ms × Value)), k ≤ ms.length ∧ i = .int .i64 (k : Int) ∧ names os = real ((names ms).take k) ∧ RPut w wr acc l os ∧ Below w.heap.size w wr
def RPPost (w : World) (l ms : List (Ms × Value)) (most : Nat) (e : Ending) (w' : World) : Prop :=
  ∃ A N c os, e = .returned (.slice A N c) ∧ names os = real (names ms) ∧ RdM w' A N (lastN most (l ++ os)) ∧ N ≤ c ∧ (∀ b off, A = some ⟨b, off, none⟩ → w.heap.size ≤ b) ∧ (∀ q ∈ os, OwnE w' w.heap.size q.2 q.1.es) ∧ Below w.heap.size w w'
theorem RPut.snoc {w wr w' : World} {v v' : Value} {l os : List (Ms × Value)} {m : Ms} {e : Value} (h : RPut w wr v l os) (hq : OwnE wr w.heap.size e m.es) (hrow : w'.ownsRow w.heap.size 47 23 v' (l.length + os.length + 1) (mcl (l ++ os) ++ mcs m e)) (hg : wr.grownBy w' v.ownBlock) : RPut w w' v' l (os ++ [(m, e)]) := by
  have key : ∀ {e' : Value} {es : List En}, OwnE wr w.heap.size e' es → OwnE w' w.heap.size e' es := fun {e' es} hE => row_keep hE fun k hk => hg.block k (World.ownsRow.lt hE k hk).2 fun c => rows_apart hE h.1 (by decide) hk c.symm
  refine ⟨by rw [List.length_append, ← List.append_assoc, mcl_append, ← Nat.add_assoc]; simpa [mcl, mcc] using hrow, fun q hq' => ?_⟩
  rcases List.mem_append.1 hq' with h' | h'
  · exact key (h.2 q h')
  · rw [List.mem_singleton.1 h']
    exact key hq
theorem RPut.below {w wr w' : World} {v : Value} {l os : List (Ms × Value)} (h : RPut w wr v l os) (hb : Below wr.heap.size wr w') : RPut w w' v l os := ⟨row_below h.1 hb, fun q hq => (h.2 q hq).below hb⟩
set_option maxRecDepth 20000 in
set_option maxHeartbeats 2000000 in
theorem rput_any {w : World} {l ms : List (Ms × Value)} {A B : Option Addr} {n c n2 c2 most : Nat} (hl : RdM w A n l) (hln : n ≤ 100000) (hr : RdM w B n2 ms) (hn : n2 ≤ 1000) (hsm : ∀ q ∈ ms, SmallM q.1) :
    Calls Try.prog 24 #[.slice A n c, .slice B n2 c2, .int .i64 (most : Int)] w (RPPost w l ms most) := by
  obtain ⟨v1, W1, ap, hrow, hg, -⟩ := run_appC (P := Try.prog) (ty := 29) (t := 29) Try.underlying29 Try.infoMs rfl (by decide) (by decide) (World.ownsRow_nil w w.heap.size 47 23) c hl.rd hl.one (by omega) (Nat.le_refl _)
  have hB1 : Below w.heap.size w W1 := below_nil hg
  have hR1 : RPut w W1 v1 l [] := ⟨by rw [List.append_nil, List.length_nil, Nat.add_zero, hl.len]; simpa using hrow, fun q hq => by cases hq⟩
  have Hl := Lib.hid hl
  have HR := Lib.hid hr
  have HN := Lib.hid hr.len
  have HLL := Lib.hid hl.len
  have Hsm := Lib.hid hsm
  have HB1 := Lib.hid hB1
  have HR1 := Lib.hid hR1
  clear hl hr hsm hrow hg hB1 hR1
  go_enter Try.func24, Try.ntmps24
  go_wp2_with (at_builtin; refine wpList_append_run ap rfl _ _ rfl rfl rfl rfl ?_)
  go_loopw [7, 8] (RPRel w l ms) (fun _ i _ => n2 - (Go.RowKit.intOf i).toNat)
  case atStart => exact ⟨0, [], Nat.zero_le _, rfl, by simp [names, real], HR1.out, HB1.out⟩
  case round =>
    obtain ⟨k, os, hk, rfl, hos, hO, hb⟩ := hrel
    by_cases hlt : k < n2
    · obtain ⟨b, off, ⟨m, e⟩, rfl, hbl, hx, hm, hc⟩ := (HR.out.below hb).get hlt
      have ld1 := load_ms hc
      have k0 : wr.cell? ⟨b, off + k * 23, none⟩ = some (.int .i64 m.k) := hc 0 _ rfl
      have hol : os.length ≤ k := by have := congrArg List.length hos; rw [names_len] at this; rw [this]; exact Nat.le_trans (real_len _) (by rw [List.length_take]; exact Nat.min_le_left _ _)
      have HC := refOwn_any m e wr hm (Hsm.out (m, e) (List.mem_of_getElem? hx)).1
      have HA := Lib.hid (fun (W3 : World) (b3 : Below wr.heap.size wr W3) (ve : Value) (hv1 : ve.oneCell' = true) (h1 : l.length + os.length + 1 ≤ 1000000) (h2 : w.heap.size ≤ W3.heap.size) => app_new (row_below hO.1 b3) m hv1 h1 h2)
      have HO2 := Lib.hid (fun (W3 : World) (b3 : Below wr.heap.size wr W3) => hO.below b3)
      have HBB := Lib.hid hb
      have Hos := Lib.hid hos
      have Hx := Lib.hid (names_get hx)
      have Hol := Lib.hid hol
      have hki : (k : Int) < (n2 : Int) := by omega
      clear hc hm hx hO hb hos hbl hk hol
      by_cases hm0 : m.k = 0
      · have hne : (m.k != 0) = false := by simp [hm0]
        have hne2 : decide (m.k = 0) = true := by simp [hm0]
        have HO3 := Lib.hid (HO2.out wr (Below.refl _ _))
        have Hn := Lib.hid (show names os = real ((names ms).take (k + 1)) by rw [take_snoc Hx.out, real_snoc_no hm0]; exact Hos.out)
        clear HC HA HO2 hm0 ld1
        go_wp2
        go_roundw
        case rel => exact ⟨k + 1, os, by have := HN.out; omega, by go_num, Hn.out, HO3.out, HBB.out⟩
        case measure => simp [Go.RowKit.intOf]; omega
      · have hne : (m.k != 0) = true := by simp [hm0]
        have hne2 : decide (m.k = 0) = false := by simp [hm0]
        have Hn := Lib.hid (show names os ++ [m] = real ((names ms).take (k + 1)) by rw [take_snoc Hx.out, real_snoc_yes hm0, Hos.out])
        clear hm0
        go_upto_region 8 with (first | (refine wpList_load_run ld1 rfl _ rfl rfl ?_) | (go_at_call 19; refine HC.mono ?_; rintro x W3 ⟨ve, rfl, hE3, b3⟩; obtain ⟨W4, a4, n4, hst⟩ := alloc_new W3; obtain ⟨W5, st5, n5⟩ := hst m ve (row_one hE3); have ld5 := load_box n5.whole; have HE3 := Lib.hid hE3; have HB3 := Lib.hid b3; have HN5 := Lib.hid n5; clear hE3 b3 n5 n4 hst) | (refine wpList_alloc_run a4 rfl rfl ?_) | (refine wpList_store_run st5 rfl _ _ rfl rfl rfl ?_))
        have hb5 : Below wr.heap.size wr W5 := HB3.out.trans (HN5.out.below.mono HB3.out.size)
        have hE5 : OwnE W5 wr.heap.size ve m.es := HE3.out.below HN5.out.below
        obtain ⟨W6, v7, W7, sl, ap7, hrow7, hg7, -⟩ := HA.out W5 hb5 ve (row_one hE5) (by have := Hol.out; have := HLL.out; omega) (by have := HBB.out.size; have := hb5.size; omega)
        have hos7 := (HO2.out W5 hb5).snoc (m := m) (e := ve) (hE5.mono HBB.out.size) hrow7 hg7
        have hB7 : Below w.heap.size w W7 := (HBB.out.trans (hb5.mono HBB.out.size)).grown hg7 (by have := HBB.out.size; have := hb5.size; omega) fun k hk => (World.ownsRow.lt (HO2.out W5 hb5).1 k hk).1
        have HO7 := Lib.hid hos7
        have HB7 := Lib.hid hB7
        clear hos7 hB7 hb5 hE5 hrow7 hg7 a4 st5 ld1
        refine wp_region_list ?_
        refine wpList_pure (v := u7) rfl rfl ?_
        simp only [Act.put, List.setIfInBounds_toArray, List.set_cons_zero, List.set_cons_succ]
        refine wpList_load_run ld5 rfl _ rfl rfl ?_
        simp only [Act.put, List.setIfInBounds_toArray, List.set_cons_zero, List.set_cons_succ]
        refine wpList_slice1_run sl rfl _ rfl rfl ?_
        simp only [Act.put, List.setIfInBounds_toArray, List.set_cons_zero, List.set_cons_succ]
        refine wpList_append_run ap7 rfl _ _ rfl rfl rfl rfl ?_
        simp only [Act.put, List.setIfInBounds_toArray, List.set_cons_zero, List.set_cons_succ]
        refine wpList_pure (v := v7) rfl rfl (wpList_nil ?_)
        simp only [Act.put, List.setIfInBounds_toArray, List.set_cons_zero, List.set_cons_succ]
        clear ap7 sl ld5 hne hne2 k0
        go_wp2
        go_roundw
        case rel => exact ⟨k + 1, os ++ [(m, ve)], by have := HN.out; omega, by go_num, by rw [← Hn.out]; simp [names], HO7.out, HB7.out⟩
        case measure => simp [Go.RowKit.intOf]; omega
    · obtain rfl : k = n2 := by have := HN.out; omega
      have HF := Lib.hid (show names os = real (names ms) by rw [hos, List.take_of_length_le (by rw [names_len]; have := HN.out; omega)])
      obtain ⟨G, cg, hacc, hcg, hfz, hrd, hbk⟩ := row_rd hO.1
      have hRd : RdM wr G (l.length + os.length) (l ++ os) := ⟨by rw [List.length_append], hrd, fun q hq => by
        rcases List.mem_append.1 hq with h | h
        · exact (Hl.out.ents q h).below hb
        · exact (hO.2 q h).msg⟩
      have hfr : ∀ a : Addr, G = some a → w.heap.size ≤ a.block := fun a e => (World.ownsRow.lt hO.1 a.block (by rw [hacc, e]; rfl)).1
      have HOs := Lib.hid hO.2
      have HB := Lib.hid hb
      have HRd := Lib.hid hRd
      have HFr := Lib.hid hfr
      clear hos hO hb hrd hfz hbk hRd hfr hlt
      subst hacc
      by_cases hmost : most < l.length + os.length
      · obtain ⟨d, hd⟩ : ∃ d, d = l.length + os.length - most := ⟨_, rfl⟩
        have hol : os.length ≤ 1000 := by have h1 := congrArg List.length HF.out; rw [names_len] at h1; have h2 := real_len (names ms); rw [names_len, HN.out] at h2; omega
        have hw : wrap64 ((l.length : Int) + (os.length : Int) - (most : Int)) = (d : Int) := by
          have := HLL.out
          have hd2 : d ≤ l.length + os.length := by omega
          rw [show (l.length : Int) + (os.length : Int) - (most : Int) = (d : Int) by omega]
          exact wrap64_id (by omega) (by omega)
        have hd1 : (d : Int) ≤ (l.length : Int) + (os.length : Int) := by omega
        have hd0 : (0 : Int) ≤ (d : Int) := by omega
        obtain ⟨G', cut, hrc, hgb⟩ := run_cutM G (n := l.length + os.length) (c := cg) (k := d) (by omega) hcg
        have HRc := Lib.hid (hrc wr _ HRd.out)
        have HGb := Lib.hid hgb
        have Hd := Lib.hid hd
        clear hrc hgb hd
        go_wp2
        go_ret
        refine ⟨_, _, _, os, rfl, HF.out, ?_, by omega, fun b off e => ?_, HOs.out, HB.out⟩
        · unfold lastN
          rw [List.length_append, ← Hd.out]
          exact HRc.out
        · obtain ⟨a, ea, eb⟩ := HGb.out b off e
          exact eb ▸ HFr.out a ea
      · go_wp2
        go_ret
        refine ⟨_, _, _, os, rfl, HF.out, ?_, hcg, fun b off e => HFr.out _ e, HOs.out, HB.out⟩
        rw [lastN_all (by rw [List.length_append]; omega)]
        exact HRd.out
end Go.Proofs.Ytgkhjmdghmpfcaa
