/-
  Package pdisk: Crash: a contract at a disk.
-/
import Derived.Test.YtcogglanbpphpaaPdWr
import Derived.Test.YtcogglanbpphpaaPdKeys
namespace Go.Proofs.Ytcogglanbpphpaa
open Go.RowKit Go.Maps

/-- A list of truths as cells. -/
def tvs (l : List Bool) : List Value := l.map .bool
theorem tvs_get {l : List Bool} {j : Nat} (hj : j < l.length) : (tvs l)[j]? = some (.bool (l.getD j false)) := by
  simp [tvs, List.getD, List.getElem?_eq_getElem hj]
/-- What a crash leaves. -/
def CrPost (w : World) (p q r n : Nat) (S : Dk) (keep : List Bool) (e : Ending) (w' : World) : Prop :=
  ∃ ks, Dirty S.had ks ∧ e = .returned (.int .i64 0) ∧ DAt w' p q r n (crS S keep ks) ∧ Oth (ds p q r) w w'
def CrRel (w : World) (p q r n : Nat) (S : Dk) (keep : List Bool) (ks : List Nat) (i : Value) (wr : World) : Prop :=
  ∃ k : Nat, k ≤ ks.length ∧ i = .int .i64 (k : Int) ∧ DAt wr p q r n { S with now := crN keep S.had ks k S.now } ∧ Oth (ds p q r) w wr
section
variable {w : World} {p q r n : Nat} {S : Dk}
set_option maxRecDepth 20000 in
set_option maxHeartbeats 1000000 in
theorem crash_any (h : DAt w p q r n S) {A : Option Addr} {m c : Nat} {keep : List Bool} (hk : RdV w A m (tvs keep)) (hA : 0 < m → ∀ x, A = some x → ¬ ds p q r x.block) :
    Calls Try.prog 9 #[.pointer (some ⟨p, 0, none⟩), .slice A m c] w (CrPost w p q r n S keep) := by
  have c1 := h.c1
  have kk := keys_any (some r) w
  have ksd := sorted_any h.had h.most
  go_enter Try.func9, Try.ntmps9
  have Hh := Lib.hid h
  have Hk := Lib.hid hk
  have HA := Lib.hid hA
  clear h hk hA
  go_wp2_with (first | (go_at_call 29; refine kk.mono ?_; rintro e w' ⟨rfl, rfl⟩) | (go_at_call 28; refine ksd.mono ?_; rintro e w1 ⟨v, ks, rfl, hpw, hmem, hown, hb⟩; obtain ⟨B, cB, rfl, hcB, _, hrd⟩ := hown.shape (n := ks.length) (by simp [nvs]); have hbl := hown.lt; clear hown))
  have hBq : ∀ a, B = some a → ¬ ds p q r a.block := fun a ha hx => by
    subst ha
    have := (hbl a.block rfl).1
    have := Hh.out.lt hx
    omega
  have HBq := Lib.hid hBq
  clear hBq hbl
  have hD1 : DAt w1 p q r n S := (Hh.out.alloc _).below hb
  have hO1 : Oth (ds p q r) w w1 := ((Oth.refl _ w).alloc _).trans (Oth.of_below hb _)
  have hdt : Dirty S.had ks := ⟨hpw, hmem⟩
  have HB := Lib.hid hb
  have HD := Lib.hid hdt
  have hkl : ks.length ≤ 4096 := by
    have := rises_len n ks hpw fun k hk => by
      obtain ⟨y, hy⟩ := Option.isSome_iff_exists.1 ((hmem k).1 hk)
      exact (Hh.out.hadn k y hy).1
    have := Hh.out.most
    omega
  clear hdt hpw hmem hb c1 kk ksd
  go_loopw [16] (fun i wr => CrRel w p q r n S keep ks i wr ∧ RdV wr B ks.length (nvs ks)) (fun i _ => ks.length - (intOf i).toNat)
  case atStart =>
    exact ⟨⟨0, Nat.zero_le _, rfl, by rw [crN_zero]; exact hD1, hO1⟩, hrd⟩
  case round =>
    obtain ⟨⟨k, hk, rfl, hDr, hOr⟩, hrr⟩ := hrel
    clear hrd hD1 hO1
    by_cases hlt : k < ks.length
    · obtain ⟨b, off, x, rfl, hb, hx, hcell⟩ := hrr.cell hlt
      obtain ⟨t, ht, rfl⟩ : ∃ t, ks[k]? = some t ∧ x = .int .i64 ((t : Nat) : Int) := by
        refine ⟨ks[k], List.getElem?_eq_getElem hlt, ?_⟩
        simp [nvs, List.getElem?_eq_getElem hlt] at hx
        exact hx.symm
      have htn : t < n := by
        obtain ⟨y, hy⟩ := Option.isSome_iff_exists.1 ((HD.out.2 t).1 (List.mem_of_getElem? ht))
        exact (Hh.out.hadn t y hy).1
      have hkm : keep.length = m := by
        have := Hk.out.len
        simpa [tvs] using this
      have Hcell := Lib.hid hcell
      have Hrr := Lib.hid hrr
      have Hx := Lib.hid hx
      have Ht := Lib.hid ht
      clear hx hrr ht
      by_cases hkp : keep.getD k false = true
      · -- it is kept
        have hklt : k < m := by
          rcases Nat.lt_or_ge k m with q | q
          · exact q
          · rw [List.getD_eq_getElem?_getD, List.getElem?_eq_none (by omega)] at hkp
            cases hkp
        have hD2 : DAt wr p q r n { S with now := crN keep S.had ks (k + 1) S.now } := by
          rw [crN_keep hkp]
          exact hDr
        obtain ⟨b2, off2, y, rfl, hb2, hy, hcell2⟩ := Hk.out.cell hklt
        rw [tvs_get (by omega), hkp] at hy
        injection hy with hy
        subst hy
        have hc2 : wr.cell? ⟨b2, off2 + k, none⟩ = some (.bool true) := by
          rw [← hcell2]
          exact World.cell?_of_block (hOr.block b2 hb2 (HA.out (by omega) _ rfl))
        have H2 := Lib.hid hD2
        have HO := Lib.hid hOr
        clear hD2 hOr hDr hcell2 hkp hkm
        go_wp2
        go_roundw
        case rel => exact ⟨⟨k + 1, hlt, by go_num, H2.out, HO.out⟩, Hrr.out⟩
        case measure => simp [intOf]; omega
      · have hkp : keep.getD k false = false := by simpa using hkp
        have hl := hDr.drew.had.look hDr.most htn false
        simp only [Bool.false_eq_true, if_false] at hl
        have hx64 : ((S.had t).getD zs).length = 64 := by
          cases hh : S.had t with
          | none => exact zs_length
          | some y => exact (Hh.out.hadn t y hh).2
        have hE := hDr.drew.setSec htn hx64
        have e1 : ({ S with now := fun j => if j = t then (S.had t).getD zs else crN keep S.had ks k S.now j } : Dk) = { S with now := crN keep S.had ks (k + 1) S.now } := by
          rw [crN_lose hkp Ht.out]
        dsimp only at hE hl
        rw [e1] at hE
        have hg := grown_setCells q (bvs ((S.had t).getD zs)) (t * 64) wr.drew
        have hP := hOr.drew.trans (Oth.of_grown hg (.inr (.inl rfl)) : Oth (ds p q r) _ _)
        have hr2 : RdV (wr.drew.setCells q (t * 64) (bvs ((S.had t).getD zs))) (some ⟨b, off, none⟩) ks.length (nvs ks) :=
          Hrr.out.drew.grown hg fun a ha hq => HBq.out a ha (.inr (.inl hq))
        have S1 := Lib.hid (And.intro (hDr.drew.there htn) (And.intro hDr.drew.c0 hDr.drew.c1))
        have S2 := Lib.hid (And.intro (hE.there htn) (And.intro hE.c0 hE.c1))
        have f2 : (bvs ((S.had t).getD zs)).length = 64 := by rw [bvs_length, hx64]
        have f3 := bvs_one ((S.had t).getD zs)
        have ua := Try.underlying65
        have us := Try.sizeSec
        rw [← f2] at us
        unfold secv at hl
        have HE := Lib.hid hE
        have HP := Lib.hid hP
        have HR := Lib.hid hr2
        have HO := Lib.hid hOr
        have hlt2 : (t : Int) < (n : Int) := by omega
        clear hE hP hr2 hOr e1 hg hx64 hkm hDr
        generalize bvs ((S.had t).getD zs) = cs at hl S1 S2 f2 f3 us HE HP HR
        by_cases hkm2 : k < m
        · obtain ⟨b2, off2, y, rfl, hb2, hy, hcell2⟩ := Hk.out.cell hkm2
          have hkm : keep.length = m := by
            have := Hk.out.len
            simpa [tvs] using this
          rw [tvs_get (by omega), hkp] at hy
          injection hy with hy
          subst hy
          have hc2 : wr.cell? ⟨b2, off2 + k, none⟩ = some (.bool false) := by
            rw [← hcell2]
            exact World.cell?_of_block (HO.out.block b2 hb2 (HA.out (by omega) _ rfl))
          clear hcell2 hkp hkm
          go_wp2
          go_region_held (fun w' => w'.there q (t * 64) 64 ∧ w'.cell? ⟨p, 0, none⟩ = some (.slice (some ⟨q, 0, none⟩) n n) ∧ w'.cell? ⟨p, 1, none⟩ = some (.map (some r))) (first | exact S1.out | exact S2.out) (fail)
          all_goals (
            go_wp2
            go_roundw
            case rel => exact ⟨⟨k + 1, hlt, by go_num, HE.out, HP.out⟩, HR.out⟩
            case measure => simp [intOf]; omega)
        · clear hkp
          go_wp2
          go_region_held (fun w' => w'.there q (t * 64) 64 ∧ w'.cell? ⟨p, 0, none⟩ = some (.slice (some ⟨q, 0, none⟩) n n) ∧ w'.cell? ⟨p, 1, none⟩ = some (.map (some r))) (first | exact S1.out | exact S2.out) (fail)
          all_goals (
            go_wp2
            go_roundw
            case rel => exact ⟨⟨k + 1, hlt, by go_num, HE.out, HP.out⟩, HR.out⟩
            case measure => simp [intOf]; omega)
    · obtain rfl : k = ks.length := by omega
      have hc1 := hDr.c1
      obtain ⟨w2, k1, hH, hg⟩ := hDr.had.clear 0
      have hD2 := hDr.setHad hg hH
      have c2 := hD2.c2
      have f2 := hD2.ptr.free 2
      have hD3 := hD2.setDown false
      have c3 := hD3.c3
      have f3 := hD3.ptr.free 3
      have hD4 := hD3.setLeft 0 (by omega)
      have c3' := hD2.c3
      have f3' := hD2.ptr.free 3
      have hP := ((hOr.trans (Oth.of_grown hg (.inr (.inr rfl)))).set (X := ds p q r) (.inl rfl) 2 (.bool false)).set (.inl rfl) 3 (.int .i64 ((0 : Nat) : Int))
      have H4 := Lib.hid hD4
      have HP := Lib.hid hP
      clear hD4 hP hD3 hD2 hH hg hOr hDr hrr
      dsimp only at c2 c3 c3'
      go_wp2
      go_ret
      exact ⟨ks, HD.out, rfl, H4.out, HP.out⟩
end
end Go.Proofs.Ytcogglanbpphpaa
