/-
  A strings.Builder of the call's own: a text is written behind, the whole is told: contracts.
-/
import Derived.Test.YtjncmfjikoepgaaChMem
import Derived.Test.YtjncmfjikoepgaaBase
import Derived.Lib.Builder
import Derived.Lib.UnsafeStr
import Derived.Laws.Externs
import Derived.RegionTactic
namespace Go.Proofs.Ytjncmfjikoepgaa
open Go.RowKit

theorem Try.infoBld : (Try.prog.info? 62).map (fun i => (i.zero, i.size, i.bytes)) = some (some (.agg #[.pointer none, .slice none 0 0]), 2, 32) := by kernel_rfl
/-- A builder in block b: new, or one that bytes were written into. -/
def BdAt (w : World) (b base : Nat) (l : List UInt8) : Prop := ∃ (a v : Value), Whole w b 62 [a, v] ∧ (a = .pointer none ∨ a = .pointer (some ⟨b, 0, none⟩)) ∧ Own 5 w base v l ∧ v.ownBlock ≠ some b
theorem bdAt_new (w : World) : BdAt (w.alloc (.cells #[.pointer none, .slice none 0 0] 62)) w.heap.size w.heap.size [] :=
  ⟨_, _, Whole.new w _ _, .inl rfl, Own.nil, by simp [Value.ownBlock]⟩
theorem whole_shape {w : World} {g : Nat} {t : TypeId} {cs : List Value} (h : Whole w g t cs) : w.shape? g = some (t, cs.length) := by
  unfold Whole at h
  simp [World.shape?, h]
section
variable {w w' : World} {b base : Nat} {l : List UInt8}
theorem BdAt.lt (h : BdAt w b base l) : b < w.heap.size := by
  obtain ⟨a, v, h1, _⟩ := h
  exact h1.lt
theorem BdAt.below (h : BdAt w b base l) (hb : Below w.heap.size w w') : BdAt w' b base l := by
  obtain ⟨a, v, h1, h2, h3, h4⟩ := h
  exact ⟨a, v, h1.below hb, h2, h3.below hb, h4⟩
set_option maxRecDepth 100000 in
set_option maxHeartbeats 1000000 in
theorem copyCheck_any {a v : Value} (h : Whole w b 62 [a, v]) (ha : a = .pointer none ∨ a = .pointer (some ⟨b, 0, none⟩)) :
    Calls Try.prog 44 #[.pointer (some ⟨b, 0, none⟩)] w fun e w' => e = .returned (.tuple #[]) ∧ Whole w' b 62 [.pointer (some ⟨b, 0, none⟩), v] ∧ w.grownBy w' (some b) := by
  have c0 := h.cell 0
  have c1 := h.free 0
  have hs := h.set 0 (.pointer (some ⟨b, 0, none⟩))
  have hsh := whole_shape h
  simp only [List.getElem?_cons_zero] at c0
  have H1 := Lib.hid h
  have HS := Lib.hid hs
  obtain ⟨j, hj, hz0, hz1, hz2⟩ := info_parts Try.infoBld
  have hl : liesAt Try.prog Try.prog.depth 62 (2 / Try.prog.cellsOf 62) 0 62 1 = true := by kernel_rfl
  have Hl := Lib.hid hl
  have Hj := Lib.hid (And.intro hj hz1)
  clear h hs hl hj hz0 hz1 hz2
  rcases ha with rfl | rfl
  · go_enter Try.func44, Try.ntmps44
    go_wp2
    rw [Lib.run_to_unsafe w ⟨b, 0, none⟩ Try.underlying60 Try.underlying73 Hj.out.1 (by rw [Hj.out.2]; decide) hsh (Nat.zero_lt_succ 1)]
    simp only [Result.andThen]
    rw [Oper.upon_value]
    go_wp2
    rw [run_callFunc_extern Try.func48 (by kernel_rfl) (by kernel_rfl) (by kernel_rfl) (e := Extern.AbiNoEscape.same) (by kernel_rfl)]
    rw [Lib.run_noEscape]
    simp only [Result.andThen]
    rw [Oper.upon_value]
    go_wp2
    rw [Lib.run_from_unsafe w ⟨b, 0, none⟩ Try.underlying73 Try.underlying60 Hj.out.1 hsh Hl.out]
    simp only [Result.andThen]
    rw [Oper.upon_value]
    go_wp2
    go_end0
    exact ⟨rfl, HS.out, grown_set _ _ _ _⟩
  · go_enter Try.func44, Try.ntmps44
    go_wp2
    rw [Lib.run_neq_ptr_same w _ Try.underlying60 Hj.out.1]
    go_wp2
    go_end0
    exact ⟨rfl, H1.out, grown_refl _ _⟩
set_option maxRecDepth 20000 in
set_option maxHeartbeats 1000000 in
theorem writeString_any (h : BdAt w b base l) (hb : base ≤ w.heap.size) (hbb : base ≤ b) (t : ByteArray) (hle : l.length + t.size ≤ 1000000) :
    Calls Try.prog 33 #[.pointer (some ⟨b, 0, none⟩), .string t] w fun e w' => (∃ v, e = .returned v) ∧ BdAt w' b base (l ++ t.data.toList) ∧ Below base w w' ∧ ∀ (x : Nat) (u : TypeId) (cs : List Value), Whole w x u cs → u ≠ 5 → x ≠ b → Whole w' x u cs := by
  obtain ⟨a, v, h1, h2, h3, h4⟩ := h
  have hc := copyCheck_any h1 h2
  have H3 := Lib.hid h3
  have H4 := Lib.hid h4
  have H1 := Lib.hid h1
  clear h1 h2 h3 h4
  go_enter Try.func33, Try.ntmps33
  go_wp2_with fail
  refine hc.mono ?_
  rintro e w1 ⟨rfl, hk, hg⟩
  have h3 : Own 5 w1 base v l := H3.out.keep fun k hk => hg.block k (H3.out.lt k hk).2 (by rintro e; exact H4.out (hk.trans e))
  obtain ⟨A, c, hv, _, _, _⟩ := h3.shape
  have c1 := hk.cell 1
  simp only [List.getElem?_cons_succ, List.getElem?_cons_zero] at c1
  have hsz := hg.size
  obtain ⟨v2, w2, hap, hown2, hg2⟩ := run_app_string (P := Try.prog) base 45 9 45 5 Try.underlying45 Try.underlying9 Try.infoU8 v l h3 t (by omega) (by omega)
  have hk2 := hk.keep (hg2.block b hk.lt (fun e => H4.out e.symm))
  obtain ⟨M, hM⟩ : ∃ M, (l ++ t.data.toList).length = M := ⟨_, rfl⟩
  obtain ⟨A2, c2, hv2, _, _, _⟩ := hown2.shapeN hM
  clear hM
  have d1 := hk2.cell 1
  have f1 := hk2.free 1
  simp only [List.getElem?_cons_succ, List.getElem?_cons_zero] at d1
  have hne2 : v2.ownBlock ≠ some b := by
    rcases hown2.2 with ⟨e, _⟩ | ⟨g, cap, cur, e, _, hh, _⟩
    · rw [e]
      simp [Value.ownBlock]
    · rw [e]
      intro hq
      have : g = b := by simpa [Value.ownBlock] using hq
      subst this
      unfold Whole at hk2
      rw [hk2] at hh
      injection hh with hh
      injection hh with _ ht
      exact absurd ht (by decide)
  have hk3 := hk2.set 1 v2
  have hgs := grown_set w2 b 1 v2
  have hown3 : Own 5 (w2.setCell ⟨b, 1, none⟩ v2) base v2 (l ++ t.data.toList) := hown2.keep fun k hk => hgs.block k (hown2.lt k hk).2 (by rintro e; exact hne2 (hk.trans e))
  have hB1 : Below base w w1 := (Below.refl base w).grown hg hb fun k hk => by injection hk with hk; omega
  have hB2 : Below base w w2 := hB1.grown hg2 (by omega) fun k hk => (h3.lt k hk).1
  have hB3 : Below base w (w2.setCell ⟨b, 1, none⟩ v2) := below_grown hB2 hgs (by have := hg2.size; omega) hbb
  have hkeep : ∀ (x : Nat) (u : TypeId) (cs : List Value), Whole w x u cs → u ≠ 5 → x ≠ b → Whole (w2.setCell ⟨b, 1, none⟩ v2) x u cs := fun x u cs hx hu hne => by
    have hx1 := hx.grown hg hne
    have hx2 : Whole w2 x u cs := hx1.keep (hg2.block x hx1.lt (fun e => by
      rcases h3.2 with ⟨e', _⟩ | ⟨g, cap, cur, e', _, hh, _⟩
      · rw [e'] at e
        simp [Value.ownBlock] at e
      · rw [e'] at e
        have : g = x := by simpa [Value.ownBlock] using e.symm
        subst this
        unfold Whole at hx1
        rw [hx1] at hh
        injection hh with hh
        injection hh with _ q
        exact hu q))
    exact hx2.grown hgs hne
  have HKP := Lib.hid hkeep
  clear hkeep
  have HF := Lib.hid (And.intro hk3 (And.intro hown3 (And.intro hne2 hB3)))
  clear hc hk hg h3 hown2 hg2 hk2 hk3 hgs hown3 hB1 hB2 hB3 hne2
  subst hv hv2
  dsimp only
  go_wp2_with (at_builtin; refine wpList_append_run hap rfl _ _ rfl rfl rfl rfl ?_)
  go_ret2
  exact ⟨⟨_, rfl⟩, ⟨_, _, HF.out.1, .inr rfl, HF.out.2.1, HF.out.2.2.1⟩, HF.out.2.2.2, HKP.out⟩
set_option maxRecDepth 100000 in
set_option maxHeartbeats 1000000 in
theorem string_any (h : BdAt w b base l) (h0 : l ≠ []) (hl : l.length ≤ 1000000) :
    Calls Try.prog 34 #[.pointer (some ⟨b, 0, none⟩)] w fun e w' => e = .returned (.string ⟨l.toArray⟩) ∧ Below base w w' := by
  obtain ⟨a, v, h1, h2, h3, h4⟩ := h
  have hpos : 0 < l.length := by
    cases l with
    | nil => exact absurd rfl h0
    | cons x r => simp
  obtain ⟨A, c, hv, hc, hm, hr⟩ := h3.shape
  have hg : ∃ g cap cur, v = .slice (some ⟨g, 0, none⟩) l.length cap ∧ base ≤ g ∧ w.heap[g]? = some (.cells cur 5 (0, 0)) ∧ l.length ≤ cap ∧ cap ≤ maxLen ∧ cur.size = cap * 1 := by
    rcases h3.2 with ⟨_, hz⟩ | ⟨g, cap, cur, hv, r1, r2, r3, r4, r5, _⟩
    · omega
    · exact ⟨g, cap, cur, hv, r1, r2, r3, r4, r5⟩
  obtain ⟨g, cap, cur, hv2, hbg, hgb, hnc, hcm, hcs⟩ := hg
  subst hv2
  have c1 : w.drew.cell? ⟨b, 1, none⟩ = some (.slice (some ⟨g, 0, none⟩) l.length cap) := h1.cell 1
  have hSD : (Builtin.unsafeSliceData_ #[45] 70 #[.slice (some ⟨g, 0, none⟩) l.length cap]).run Try.prog w.drew = .ok (.pointer (some ⟨g, 0, none⟩)) w.drew :=
    Lib.run_unsafeSliceData_row _ _ _ _ _ _ (by omega)
  have hUS : (Builtin.unsafeString_ #[70, 3] 9 #[.pointer (some ⟨g, 0, none⟩), .int .i64 l.length]).run Try.prog w.drew = .ok (.string ⟨l.toArray⟩) (w.drew.freeze ⟨g, 0, none⟩ l.length) := by
    refine Lib.run_unsafeString_row w.drew 70 3 9 5 Try.underlying70 (by kernel_rfl) g cur.size (by have hg' : w.drew.heap[g]? = some (.cells cur 5 (0, 0)) := hgb; simp [World.shape?, hg']) l h0 (by omega) (by unfold maxLen at hcm; omega) ?_
    intro j x hx
    have := World.ownsRow.cells h3 (g := g) rfl j (.int .u8 x.toNat) (by simp [bvs, bv, hx])
    exact this
  have hbelow : Below base w (w.drew.freeze ⟨g, 0, none⟩ l.length) := Lib.below_freeze (Below.drew (Below.refl base w)) (p := ⟨g, 0, none⟩) hbg _
  have HB := Lib.hid hbelow
  clear hbelow h1 h2 h3 h4 hr hv hgb hcs
  go_enter Try.func34, Try.ntmps34
  go_wp2
  go_region
  all_goals (go_wp2; go_ret; exact ⟨rfl, HB.out⟩)
set_option maxRecDepth 100000 in
set_option maxHeartbeats 1000000 in
/-- A builder into which nothing was written tells no text. -/
theorem string_none (h : Whole w b 62 [.pointer none, .slice none 0 0]) :
    Calls Try.prog 34 #[.pointer (some ⟨b, 0, none⟩)] w fun e w' => e = .returned (.string ⟨#[]⟩) ∧ Below w.heap.size w w' := by
  have c1 : w.drew.cell? ⟨b, 1, none⟩ = some (.slice none 0 0) := h.cell 1
  have hSD : (Builtin.unsafeSliceData_ #[45] 70 #[.slice none 0 0]).run Try.prog w.drew = .ok (.pointer none) w.drew := rfl
  have hUS : (Builtin.unsafeString_ #[70, 3] 9 #[.pointer none, .int .i64 0]).run Try.prog w.drew = .ok (.string .empty) w.drew := Lib.run_unsafeString_none w.drew _ _ _ _
  have HB := Lib.hid (Below.drew (Below.refl w.heap.size w))
  clear h
  go_enter Try.func34, Try.ntmps34
  go_wp2
  go_region
  all_goals (go_wp2; go_ret; exact ⟨rfl, HB.out⟩)
end
end Go.Proofs.Ytjncmfjikoepgaa
