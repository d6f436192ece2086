/-
  Package chunk: Join: pieces are a text, or none: contract.
-/
import Derived.Test.YtjncmfjikoepgaaChFit
import Derived.Test.YtjncmfjikoepgaaChBd
namespace Go.Proofs.Ytjncmfjikoepgaa
open Go.RowKit

/-- Pieces by which a manifest's text is joined. -/
def JoinOk (n : Int) (z : List Int) (ps : List ByteArray) : Prop := RightM n z ∧ ps.length = z.length ∧ ∀ (r : Nat) (p : ByteArray), ps[r]? = some p → FitM n.toNat z (r : Int) p
/-- What Join tells. -/
def JoinP (w : World) (n : Int) (z : List Int) (ps : List ByteArray) (e : Ending) (w' : World) : Prop :=
  ((JoinOk n z ps ∧ e = .returned (.tuple #[.string (cat ps), .int .i64 0])) ∨ (¬ JoinOk n z ps ∧ e = .returned (.tuple #[.string ⟨#[]⟩, .int .i64 100]))) ∧ Below w.heap.size w w'
theorem cat_bytes {ps : List ByteArray} {j : Nat} {p : ByteArray} (h : ps[j]? = some p) : (cat (ps.take (j + 1))).data.toList = (cat (ps.take j)).data.toList ++ p.data.toList := by
  rw [cat_take h, ByteArray.data_append, Array.toList_append]
theorem list_size (s : ByteArray) : s.data.toList.length = s.size := rfl
set_option maxRecDepth 20000 in
set_option maxHeartbeats 2000000 in
theorem join_any (n : Int) (A A2 : Option Addr) (k c k2 c2 : Nat) (z : List Int) (ps : List ByteArray) (w : World) (hr : RdV w A k (ivs z)) (hk : k ≤ 1000000000) (hp : RdV w A2 k2 (tvs ps)) (hk2 : k2 ≤ 1000000000) :
    Calls Try.prog 19 #[.agg #[.int .i64 n, .slice A k c], .slice A2 k2 c2] w (JoinP w n z ps) := by
  have hl : z.length = k := by have := hr.len; rwa [ivs_length] at this
  have hl2 : ps.length = k2 := by have := hp.len; rwa [tvs_length] at this
  have hB : Below w.heap.size w (w.alloc (.cells #[.int .i64 n, .slice A k c] 24)) := (Below.refl _ _).alloc (Nat.le_refl _) _
  have hK := Whole.new w #[.int .i64 n, .slice A k c] 24
  have HC := check_any n A k c z _ (hr.below hB) hk
  by_cases hq : RightM n z
  case neg =>
    rw [decide_eq_false hq] at HC
    have HQ := Lib.hid hq
    have HB := Lib.hid hB
    clear hq hr hp hB hK hl hl2
    go_enter Try.func19, Try.ntmps19
    go_wp2_with (go_at_call 15; refine HC.mono ?_; rintro e w1 ⟨r, rfl, hrr, hb1⟩; obtain rfl := tellsE_no hrr)
    go_ret2
    exact ⟨.inr ⟨fun h => HQ.out h.1, rfl⟩, HB.out.trans (hb1.mono HB.out.size)⟩
  rw [decide_eq_true hq] at HC
  obtain ⟨m, rfl⟩ : ∃ m : Nat, n = (m : Int) := ⟨n.toNat, by have := hq.1; omega⟩
  have hm : m ≤ 65536 := by have := hq.1; omega
  have hkm : k = cnt m := by have := hq.2.1; rw [hl, Int.toNat_natCast] at this; exact this
  have hk8 : k ≤ 820 := by rw [hkm]; exact cnt_le hm
  by_cases hkk : k2 = k
  case neg =>
    have HQ := Lib.hid (show ¬ JoinOk m z ps from fun h => hkk (by rw [← hl, ← hl2]; exact h.2.1))
    have HB := Lib.hid hB
    have HK := Lib.hid hK
    have hne : ((k2 : Int) == (k : Int)) = false := by rw [beq_eq_false_iff_ne]; omega
    clear hq hr hp hB hK hl hl2 hkm
    go_enter Try.func19, Try.ntmps19
    go_wp2_with (go_at_call 15; refine HC.mono ?_; rintro e w1 ⟨r, rfl, hrr, hb1⟩; obtain rfl := tellsE_yes hrr; have k1 := (HK.out.below hb1).cell 1; simp only [List.getElem?_cons_succ, List.getElem?_cons_zero] at k1)
    go_ret2
    exact ⟨.inr ⟨HQ.out, rfl⟩, HB.out.trans (hb1.mono HB.out.size)⟩
  subst hkk
  have HQ := Lib.hid hq
  have Hl := Lib.hid (And.intro hl hl2)
  have Hkm := Lib.hid hkm
  have HB := Lib.hid hB
  have HK := Lib.hid hK
  have HR := Lib.hid hr
  have HP := Lib.hid hp
  clear hq hl hl2 hkm hB hK hr hp
  go_enter Try.func19, Try.ntmps19
  go_upto_region 3 with (go_at_call 15; refine HC.mono ?_; rintro e w1 ⟨r, rfl, hrr, hb1⟩; obtain rfl := tellsE_yes hrr; have k1 := (HK.out.below hb1).cell 1; simp only [List.getElem?_cons_succ, List.getElem?_cons_zero] at k1)
  clear hrr k1 HC
  have bw := HB.out.trans (hb1.mono HB.out.size)
  have HK1 := Lib.hid (HK.out.below hb1)
  have HB1 := Lib.hid bw
  have hw0 : Whole (w1.alloc (.cells #[.pointer none, .slice none 0 0] 62)) w1.heap.size 62 [.pointer none, .slice none 0 0] := Whole.new w1 _ _
  have HD0 := Lib.hid (And.intro (bdAt_new w1) (And.intro hw0 (Below.alloc (Below.refl w1.heap.size w1) (Nat.le_refl _) (.cells #[.pointer none, .slice none 0 0] 62))))
  clear hw0 hb1 HK HB bw
  go_wp2_with fail
  go_loopw [22] (fun i wr => ∃ j : Nat, j ≤ k2 ∧ i = .int .i64 (j : Int) ∧ Hid (∀ (r : Nat) (p : ByteArray), (ps.take j)[r]? = some p → FitM m z (r : Int) p) ∧ Hid ((cat (ps.take j)).size ≤ 80 * j ∧ (0 < j → 0 < (cat (ps.take j)).size)) ∧ Hid (BdAt wr w1.heap.size w1.heap.size (cat (ps.take j)).data.toList ∧ (j = 0 → Whole wr w1.heap.size 62 [.pointer none, .slice none 0 0]) ∧ Below w1.heap.size w1 wr)) (fun i _ => k2 - (intOf i).toNat)
  case atStart => exact ⟨0, by omega, rfl, Lib.hid (fun r p h => by simp at h), Lib.hid ⟨by simp [cat_nil, ByteArray.size], fun h => by omega⟩, Lib.hid ⟨HD0.out.1, fun _ => HD0.out.2.1, HD0.out.2.2⟩⟩
  case round =>
    obtain ⟨j, hj, rfl, hF, hS, hW⟩ := hrel
    have HKr := Lib.hid (HK1.out.keep (hW.out.2.2.block _ HK1.out.lt))
    have k0 := HKr.out.cell 0
    have k1 := HKr.out.cell 1
    simp only [List.getElem?_cons_succ, List.getElem?_cons_zero] at k0 k1
    have HBr := Lib.hid (HB1.out.trans (hW.out.2.2.mono HB1.out.size))
    by_cases hlt : j < k2
    · obtain ⟨g, off, u, rfl, _, hu, hc⟩ := (HP.out.below HBr.out).cell hlt
      obtain ⟨p, hpj, rfl⟩ := tvs_get hu
      have HF := fit_any m A k2 c z (j : Int) p wr (HR.out.below HBr.out) Hkm.out hm
      have HPj := Lib.hid hpj
      clear hu hpj
      by_cases hf : FitM m z (j : Int) p
      · rw [decide_eq_true hf] at HF
        have Hf := Lib.hid hf
        have hpz : 1 ≤ p.size ∧ p.size ≤ 80 := by
          rw [hf.2.1, Int.toNat_natCast]
          exact ⟨pln_pos (by rw [← Hkm.out]; exact hlt), pln_le _ _⟩
        have Hpz := Lib.hid hpz
        clear hf hpz
        go_wp2_with (go_at_call 32; refine HF.mono ?_; rintro e w2 ⟨rfl, hb2⟩)
        have hg1 : w1.heap.size < wr.heap.size := hW.out.1.lt
        have hwS := writeString_any (hW.out.1.below hb2) (by have := hb2.size; omega) (Nat.le_refl _) p (by rw [list_size]; have := hS.out.1; have := Hpz.out.2; omega)
        have HW2 := Lib.hid hb2
        clear hb2 HF hc
        refine hwS.mono ?_
        rintro e w3 ⟨⟨v3, rfl⟩, hd3, hb3, _⟩
        rw [← cat_bytes HPj.out] at hd3
        have HW3 := Lib.hid (And.intro hd3 hb3)
        clear hd3 hb3 hwS
        go_wp2
        go_roundw
        case rel =>
          refine ⟨j + 1, by omega, by go_num, Lib.hid fun r q hq => ?_, Lib.hid ?_, Lib.hid ⟨HW3.out.1, fun h => by omega, ?_⟩⟩
          · rw [List.take_add_one, HPj.out] at hq
            by_cases hrj : r < j
            · rw [List.getElem?_append_left (by rw [List.length_take, Hl.out.2]; omega)] at hq
              exact hF.out r q hq
            · have e : r = j := by
                have h := (List.getElem?_eq_some_iff.1 hq).1
                simp only [List.length_append, List.length_take, Option.toList_some, List.length_singleton] at h
                omega
              subst e
              rw [List.getElem?_append_right (by rw [List.length_take]; omega), List.length_take, Hl.out.2, Nat.min_eq_left (by omega), Nat.sub_self] at hq
              simp at hq
              subst hq
              exact Hf.out
          · have h1 := hS.out.1
            have h2 := Hpz.out
            rw [cat_take HPj.out, ByteArray.size_append]
            omega
          · exact hW.out.2.2.trans ((HW2.out.mono (by omega)).trans HW3.out.2)
        case measure => simp [intOf]; omega
      · rw [decide_eq_false hf] at HF
        have HQN := Lib.hid (show ¬ JoinOk m z ps from fun h => hf (by have := h.2.2 j p HPj.out; rwa [Int.toNat_natCast] at this))
        clear hf
        go_wp2_with (go_at_call 32; refine HF.mono ?_; rintro e w2 ⟨rfl, hb2⟩)
        go_ret2
        exact ⟨.inr ⟨HQN.out, rfl⟩, HBr.out.trans (hb2.mono HBr.out.size)⟩
    · obtain rfl : j = k2 := by omega
      have hok : JoinOk m z ps := ⟨HQ.out, by rw [Hl.out.1, Hl.out.2], fun r p h => by rw [Int.toNat_natCast]; exact hF.out r p (by rw [List.take_of_length_le (by rw [Hl.out.2]; exact Nat.le_refl _)]; exact h)⟩
      have hcat : ps.take j = ps := List.take_of_length_le (by rw [Hl.out.2]; exact Nat.le_refl _)
      rw [hcat] at hS hW
      have Hok := Lib.hid hok
      clear hok hcat k0 k1
      by_cases hz : j = 0
      · have hSt := string_none (hW.out.2.1 hz)
        have he : cat ps = ⟨#[]⟩ := ba_empty (by have := hS.out.1; omega)
        have He := Lib.hid he
        clear he
        go_wp2_with fail
        refine hSt.mono ?_
        rintro e w2 ⟨rfl, hb2⟩
        go_wp2
        go_ret2
        exact ⟨.inl ⟨Hok.out, by rw [He.out]; rfl⟩, HBr.out.trans (hb2.mono HBr.out.size)⟩
      · have hne : (cat ps).data.toList ≠ [] := fun e => by
          have h1 := hS.out.2 (by omega)
          rw [← list_size, e] at h1
          simp at h1
        have hSt := string_any hW.out.1 hne (by rw [list_size]; have := hS.out.1; omega)
        have hst : (ByteArray.mk (cat ps).data.toList.toArray) = cat ps := by simp
        rw [hst] at hSt
        have hgw : w1.heap.size ≤ wr.heap.size := Nat.le_of_lt hW.out.1.lt
        clear hne hst
        go_wp2_with fail
        refine hSt.mono ?_
        rintro e w2 ⟨rfl, hb2⟩
        go_wp2
        go_ret2
        exact ⟨.inl ⟨Hok.out, rfl⟩, HB1.out.trans ((hW.out.2.2.trans hb2).mono HB1.out.size)⟩
end Go.Proofs.Ytjncmfjikoepgaa
