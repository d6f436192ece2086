/-
  Package redo: the records in the ring are gone through (follow), in a log whose root tells of none that is safe: a contract.
-/
import Derived.Test.YtcogglanbpphpaaLgRm
import Derived.Lib.QuietBelow
import Derived.Deep.RegionHeld3
import Derived.Deep.RegionLaw
namespace Go.Proofs.Ytcogglanbpphpaa
open Go.RowKit

theorem mixed8 : Try.prog.follows .mixedOrders = true := by kernel_rfl
theorem rec_case {R : Nat → Ct} {n ag nu : Nat} {L : List (List UInt8)} (h : Ring R n ag nu L) {m : Nat} (hm : m ≤ L.length) :
    (∃ t, L[m]? = some t ∧ (R (off L m)).ag = ag ∧ (R (off L m)).sz = t.length ∧ ∀ i, i < np t.length → PcOk R n (off L m) ag (nu + m) t.length i) ∨
      ((m < L.length → ¬ Full R L m) ∧ (R (off L m)).sz ≤ 1024 ∧ ∃ i, i < np (R (off L m)).sz ∧ ¬ PcOk R n (off L m) (R (off L m)).ag (nu + m) (R (off L m)).sz i) := by
  have hz : R (off L m) = Ct.zero → (R (off L m)).sz ≤ 1024 ∧ ∃ i, i < np (R (off L m)).sz ∧ ¬ PcOk R n (off L m) (R (off L m)).ag (nu + m) (R (off L m)).sz i := fun e => by
    refine ⟨by rw [e]; simp [Ct.zero], 0, np_pos _, fun q => ?_⟩
    have := q.1
    rw [Nat.add_zero, Nat.mod_eq_of_lt (off_lt h hm), e] at this
    simp [Ct.zero] at this
  by_cases hl : m < L.length
  · have ht : L[m]? = some L[m] := List.getElem?_eq_getElem hl
    obtain ⟨_, h2⟩ := h.at_ ht (np_pos _)
    rw [Nat.add_zero] at h2
    by_cases hf : Full R L m
    · have h3 := hf _ ht 0 (np_pos _)
      rw [Nat.add_zero] at h3
      rcases h2 with e | e
      · exact absurd e h3
      · refine .inl ⟨_, ht, by rw [e]; rfl, by rw [e]; rfl, fun i hi => (pcOk_iff h ht hi).2 (hf _ ht i hi)⟩
    · refine .inr ⟨fun _ => hf, ?_⟩
      rcases h2 with e | e
      · exact hz e
      · have e1 : (R (off L m)).sz = L[m].length := by rw [e]; rfl
        have e2 : (R (off L m)).ag = ag := by rw [e]; rfl
        rw [e1, e2]
        refine ⟨h.len _ (List.mem_of_getElem? ht), ?_⟩
        unfold Full at hf
        apply Classical.byContradiction
        intro hn
        refine hf fun t ht' i hi => ?_
        rw [ht] at ht'
        injection ht' with ht'
        subst ht'
        refine (pcOk_iff h ht hi).1 ?_
        apply Classical.byContradiction
        intro hq
        exact hn ⟨i, hi, hq⟩
  · obtain rfl : m = L.length := by omega
    exact .inr ⟨fun q => absurd q (by omega), hz h.end_⟩
theorem record_case {R : Nat → Ct} {b o n ag nu : Nat} {L : List (List UInt8)} (h : Ring R n ag nu L) {m : Nat} (hm : m ≤ L.length) (hn : n ≤ 1024) :
    ∃ (tv : ByteArray) (bb : Bool), (∀ (c : Nat) (W : World), RowCt W b o n R → Calls Try.prog 53 #[.slice (some ⟨b, o, none⟩) n c, .int .i64 ((off L m : Nat) : Int), .agg #[.int .i64 2, .int .i64 ((R (off L m)).ag : Int), .int .i64 ((nu + m : Nat) : Int), .int .i64 0, .int .i64 ((R (off L m)).sz : Int)]] W
        fun e w' => e = .returned (.tuple #[.string tv, .bool bb]) ∧ Below W.heap.size W w') ∧
      ((bb = true ∧ ∃ t, L[m]? = some t ∧ tv = ⟨t.toArray⟩ ∧ (R (off L m)).ag = ag ∧ (R (off L m)).sz = t.length) ∨ (bb = false ∧ (m < L.length → ¬ Full R L m))) := by
  have hlt := off_lt h hm
  rcases rec_case h hm with ⟨t, ht, e1, e2, hok⟩ | ⟨hnf, hsz, i, hi, hno⟩
  · refine ⟨⟨t.toArray⟩, true, fun c W hW => ?_, .inl ⟨rfl, t, ht, rfl, e1, e2⟩⟩
    have htx := rec_text h ht hok
    rw [e1, e2]
    refine (record_any hW (by omega) hn hlt (h.len _ (List.mem_of_getElem? ht)) (fun j hj => h.tx hj) (fun _ => by rw [htx]; intro e; have := h.pos _ (List.mem_of_getElem? ht); rw [e] at this; simp at this)).mono ?_
    rintro e w' ⟨hb, hc⟩
    rcases hc with ⟨_, he⟩ | ⟨⟨i, hi, hno⟩, _⟩
    · exact ⟨by rw [he, htx], hb⟩
    · exact absurd (hok i hi) hno
  · refine ⟨⟨#[]⟩, false, fun c W hW => ?_, .inr ⟨rfl, hnf⟩⟩
    refine (record_any hW (by omega) hn hlt hsz (fun j hj => h.tx hj) (fun q => absurd (q i hi) hno)).mono ?_
    rintro e w' ⟨hb, hc⟩
    rcases hc with ⟨q, _⟩ | ⟨_, he⟩
    · exact absurd (q i hi) hno
    · exact ⟨he, hb⟩
/-- The sizes of the first m records. -/
def szs (L : List (List UInt8)) (m : Nat) : List Nat := (L.take m).map fun t => np t.length
theorem szs_succ {L : List (List UInt8)} {m : Nat} {t : List UInt8} (h : L[m]? = some t) : szs L (m + 1) = szs L m ++ [np t.length] := by
  rw [szs, szs, List.take_add_one, h]
  simp
theorem szs_length {L : List (List UInt8)} {m : Nat} (h : m ≤ L.length) : (szs L m).length = m := by simp [szs]; omega
/-- What follow hands back: some first ones of the records, as its sizes too; the next one is not all there. -/
def FoPost (w : World) (R : Nat → Ct) (L : List (List UInt8)) (g p fr se ag fi : Nat) (e : Ending) (w' : World) : Prop :=
  ∃ m vt vs, m ≤ L.length ∧ e = .returned vt ∧ OwnV 9 w' w.heap.size vt (svs (L.take m)) ∧ LAt w' g p fr se ag fi 0 vs ∧ OwnV 3 w' w.heap.size vs (nts (szs L m)) ∧ w.grownBy w' (some g) ∧ (m < L.length → ¬ Full R L m)
def FoRel (w : World) (L : List (List UInt8)) (g p fr se ag fi : Nat) (vt va : Value) (wr : World) : Prop :=
  ∃ m vs, m ≤ L.length ∧ va = .int .i64 ((off L m : Nat) : Int) ∧ OwnV 9 wr w.heap.size vt (svs (L.take m)) ∧ LAt wr g p fr se ag fi 0 vs ∧ OwnV 3 wr w.heap.size vs (nts (szs L m)) ∧ w.grownBy wr (some g)
set_option maxRecDepth 20000 in
set_option maxHeartbeats 2000000 in
theorem follow_any {w : World} {b o n c g p fr se ag fi : Nat} {R : Nat → Ct} {L : List (List UInt8)} (h : RowCt w b o n R) (hL : LAt w g p fr se ag fi 0 (.slice none 0 0)) (hr : Ring R n ag fi L) (hn : n ≤ 1024) (hfi : fi ≤ 1000000) (_hag : ag ≤ 1000000) (hll : L.length ≤ 1000) (hbg : b ≠ g) :
    Calls Try.prog 38 #[.pointer (some ⟨g, 0, none⟩), .slice (some ⟨b, o, none⟩) n c, .int .i64 0] w (FoPost w R L g p fr se ag fi) := by
  have c5 := hL.c5
  have HR := Lib.hid h
  have HL := Lib.hid hL
  have HG := Lib.hid hr
  clear h hL hr
  go_enter Try.func38, Try.ntmps38
  go_wp2
  clear c5
  go_loopw [7, 8] (fun vt va wr => FoRel w L g p fr se ag fi vt va wr) (fun _ va _ => 2000 - (Go.RowKit.intOf va).toNat)
  case atStart => exact ⟨0, .slice none 0 0, Nat.zero_le _, rfl, OwnV.nil, HL.out, OwnV.nil, grown_refl _ _⟩
  case round =>
    obtain ⟨m, vs, hm, rfl, hT, hLm, hS, hg⟩ := hrel
    have hoff := off_lt HG.out hm
    have hge := hg.size
    have hR := HR.out.grown hg hbg
    obtain ⟨x0, x1, x2, x3, x4, x5⟩ := hR.get _ hoff
    obtain ⟨At, ct, rfl⟩ := slice_own hT (n := m) (by rw [svs_length, List.length_take]; omega)
    obtain ⟨As, cs, rfl⟩ := slice_own hS (n := m) (by rw [nts_length, szs_length hm])
    obtain ⟨k, hk⟩ : ∃ k, k = off L m := ⟨_, rfl⟩
    rw [← hk] at hoff x0 x1 x2 x3 x4 x5 ⊢
    have HK := Lib.hid hk
    have HR2 := Lib.hid hR
    have HT := Lib.hid hT
    have HS := Lib.hid hS
    have HLm := Lib.hid hLm
    have Hg := Lib.hid hg
    clear hk hR hT hS hLm hg
    unfold sv at x5
    go_upto_region 5 with (fail)
    have hK := Whole.new wr #[.int .i64 ((R k).kd : Int), .int .i64 ((R k).ag : Int), .int .i64 ((R k).nu : Int), .int .i64 ((R k).pl : Int), .int .i64 ((R k).sz : Int), .string ⟨(R k).tx.toArray⟩] 57
    have hBa : Below wr.heap.size wr (wr.alloc (.cells #[.int .i64 ((R k).kd : Int), .int .i64 ((R k).ag : Int), .int .i64 ((R k).nu : Int), .int .i64 ((R k).pl : Int), .int .i64 ((R k).sz : Int), .string ⟨(R k).tx.toArray⟩] 57)) := (Below.refl _ _).alloc (Nat.le_refl _) _
    have HBa := Lib.hid hBa
    have HKw := Lib.hid hK
    clear hBa hK x0 x1 x2 x3 x4 x5
    generalize wr.alloc (.cells #[.int .i64 ((R k).kd : Int), .int .i64 ((R k).ag : Int), .int .i64 ((R k).nu : Int), .int .i64 ((R k).pl : Int), .int .i64 ((R k).sz : Int), .string ⟨(R k).tx.toArray⟩] 57) = W at HBa HKw ⊢
    obtain ⟨tv, bb, hrec, hcase⟩ := record_case (b := b) (o := o) HG.out hm hn
    rw [← HK.out] at hrec hcase
    have HC := Lib.hid hcase
    clear hcase
    have hRW := HR2.out.below HBa.out
    have hLW := HLm.out.below HBa.out
    have cN : ∀ dd os, Calls Try.prog 24 #[.pointer (some ⟨g, 0, none⟩)] (Go.Sort.grow (redrawn W dd) os) fun e w'' => e = .returned (.int .i64 ((fi + m : Nat) : Int)) ∧ ∃ p : Regrown, w'' = Go.Sort.grow (redrawn W p.d) p.os := fun dd os =>
      Calls.regrown_of (next_any (hLW.below (below_regrown W dd os)) (by omega))
    have cR : ∀ dd os, Calls Try.prog 53 #[.slice (some ⟨b, o, none⟩) n c, .int .i64 (k : Int), .agg #[.int .i64 2, .int .i64 ((R k).ag : Int), .int .i64 ((fi + m : Nat) : Int), .int .i64 0, .int .i64 ((R k).sz : Int)]] (Go.Sort.grow (redrawn W dd) os) fun e w'' => e = .returned (.tuple #[.string tv, .bool bb]) ∧ ∃ p : Regrown, w'' = Go.Sort.grow (redrawn W p.d) p.os := fun dd os =>
      Calls.regrown_of (hrec c _ (hRW.below (below_regrown W dd os)))
    have y1 := cell_regrown (show W.cell? ⟨wr.heap.size, 1, none⟩ = some (.int .i64 ((R k).ag : Int)) from HKw.out.cell 1)
    have y4 := cell_regrown (show W.cell? ⟨wr.heap.size, 4, none⟩ = some (.int .i64 ((R k).sz : Int)) from HKw.out.cell 4)
    clear hRW hLW hrec
    have mixed := mixed8
    refine wp_region_quiet_below mixed (by kernel_rfl) ?_
    repeat (go_big_quiet_step (first | exact cN _ _ | exact cR _ _))
    refine wpQuiet_nil ?_
    intro _ hw'
    obtain ⟨⟨dq, osq⟩, rfl⟩ := hw'
    have hB1 := below_regrown W dq osq
    dsimp only
    generalize Go.Sort.grow (redrawn W dq) osq = W1 at hB1 ⊢
    clear cN cR y1 y4
    have hB := HBa.out.trans (hB1.mono HBa.out.size)
    have hKc := HKw.out.below hB1
    generalize hcb : wr.heap.size = cb at hKc ⊢
    have hT1 := HT.out.below hB
    have hS1 := HS.out.below hB
    have hL1 := HLm.out.below hB
    have hg1 : w.grownBy W1 (some g) := grown_trans Hg.out (grown_below hB _)
    have dm : decide ((m : Int) < 0) = false := by simp
    have dm2 : ((m : Int) < 0) = False := by simp
    clear hB1 HBa HKw HR2
    rcases HC.out with ⟨rfl, t, ht, rfl, e1, e2⟩ | ⟨rfl, hnf⟩
    · have hml : m < L.length := (List.getElem?_eq_some_iff.1 ht).1
      have hos := off_succ ht
      have hol := off_lt HG.out (m := m + 1) hml
      rw [hos, ← HK.out] at hol
      have hgl := HL.out.lt
      obtain ⟨N, hN⟩ : ∃ N, N = np t.length := ⟨_, rfl⟩
      have hNpos : 1 ≤ N := by rw [hN]; exact np_pos _
      have hNle : N ≤ 29 := by
        have := HG.out.len _ (List.mem_of_getElem? ht)
        rw [hN]
        unfold np
        omega
      have htl : t.length ≤ 1024 := HG.out.len _ (List.mem_of_getElem? ht)
      have hkp : ∀ W, Calls Try.prog 19 #[.int .i64 ((t.length : Nat) : Int)] W fun e w' => e = .returned (.int .i64 (N : Int)) ∧ w' = W := fun W => by rw [hN]; exact pieces_any t.length (by omega) W
      rw [← hN] at hos hol
      have hst := svs_append (L.take m) [t]
      have hLt : L.take (m + 1) = L.take m ++ [t] := by rw [List.take_add_one, ht]; rfl
      have hsz := szs_succ ht
      rw [← hN] at hsz
      -- the text is appended
      obtain ⟨v2, w2, hap, hT2, hgr2, how2⟩ := run_app_cell (P := Try.prog) (w := W1.drew) w.heap.size 22 22 9 Try.underlying22 Try.infoStr rfl (by omega) (by omega) _ _ (show OwnV 9 W1.drew w.heap.size (.slice At m ct) (svs (L.take m)) from hT1.drew) (sv t) rfl (by rw [svs_length, List.length_take]; omega) (Nat.le_trans hge (show wr.heap.size ≤ W1.drew.heap.size from hB.size))
      rw [show svs (L.take m) ++ [sv t] = svs (L.take (m + 1)) by rw [hLt, hst]; rfl] at hT2
      have hS2 : OwnV 3 w2 w.heap.size (.slice As m cs) (nts (szs L m)) := hS1.keep fun q hq => hgr2.block q (hS1.lt q hq).2 (fun e => own_apart hT1 hS1 (by decide) e.symm hq)
      have hown2 : ∀ q, (Value.slice At m ct).ownBlock = some q → w.heap.size ≤ q := fun q hq => (hT1.lt q hq).1
      have hL2 : LAt w2 g p fr se ag fi 0 (.slice As m cs) := hL1.keep (hgr2.block g hL1.lt (fun e => by have := hown2 g e.symm; omega))
      have hKc2 : Whole w2 cb 57 _ := hKc.keep (hgr2.block cb hKc.lt (fun e => hT1.apart hKc (by decide) e.symm))
      have hg2 : w.grownBy w2 (some g) := grown_own (show w.grownBy W1.drew (some g) from grown_trans hg1 (grown_below (Below.refl _ _).drew _)) hgr2 (fun q hq => .inl (hown2 q hq))
      obtain ⟨A2, c2, rfl⟩ := slice_own hT2 (n := m + 1) (by rw [svs_length, List.length_take]; omega)
      -- its size is appended
      obtain ⟨v5, w5, hap5, hS5, hgr5, how5⟩ := run_app_cell (P := Try.prog) (w := w2.drew) w.heap.size 45 45 3 Try.underlying45 Try.infoInt rfl (by omega) (by omega) _ _ (show OwnV 3 w2.drew w.heap.size (.slice As m cs) (nts (szs L m)) from hS2.drew) (.int .i64 (N : Int)) rfl (by rw [nts_length, szs_length hm]; omega) (show w.heap.size ≤ w2.heap.size from hg2.size)
      rw [show nts (szs L m) ++ [.int .i64 (N : Int)] = nts (szs L (m + 1)) by rw [hsz, nts_append]; rfl] at hS5
      have hown5 : ∀ q, (Value.slice As m cs).ownBlock = some q → w.heap.size ≤ q := fun q hq => (hS2.lt q hq).1
      have hT5 : OwnV 9 w5 w.heap.size (.slice A2 (m + 1) c2) (svs (L.take (m + 1))) := hT2.keep fun q hq => hgr5.block q (hT2.lt q hq).2 (fun e => own_apart hS2 hT2 (by decide) e.symm hq)
      have hL5 : LAt w5 g p fr se ag fi 0 (.slice As m cs) := hL2.keep (hgr5.block g hL2.lt (fun e => by have := hown5 g e.symm; omega))
      have hKc5 : Whole w5 cb 57 _ := hKc2.keep (hgr5.block cb hKc2.lt (fun e => hS2.apart hKc2 (by decide) e.symm))
      have hg5 : w.grownBy w5 (some g) := grown_own (show w.grownBy w2.drew (some g) from grown_trans hg2 (grown_below (Below.refl _ _).drew _)) hgr5 (fun q hq => .inl (hown5 q hq))
      obtain ⟨A5, c5, rfl⟩ := slice_own hS5 (n := m + 1) (by rw [nts_length, szs_length (by omega)])
      have hgc : g ≠ cb := by have := hg1.size; have h3 := Hg.out.size; omega
      have hL6 := hL5.set6 (.slice A5 (m + 1) c5)
      have hgs := grown_set w5 g 6 (.slice A5 (m + 1) c5)
      have hT6 := hT5.grown hgs (fun e => by have := (hT5.lt g e).1; omega)
      have hS6 := hS5.grown hgs (fun e => by have := (hS5.lt g e).1; omega)
      have hKc6 := hKc5.grown hgs hgc.symm
      have hg6 := grown_trans hg5 hgs
      have HF := Lib.hid (And.intro hT6 (And.intro hL6 (And.intro hS6 hg6)))
      have x6 := hL5.c6
      have f6 := hL5.free 6
      have z6 : (w5.setCell ⟨g, 6, none⟩ (.slice A5 (m + 1) c5)).cell? ⟨cb, 4, none⟩ = some (.int .i64 ((R k).sz : Int)) := hKc6.cell 4
      have d6 : w2.drew.cell? ⟨g, 6, none⟩ = some (.slice As m cs) := hL2.drew.c6
      have d6' : ∀ o, (w2.alloc o).cell? ⟨g, 6, none⟩ = some (.slice As m cs) := fun o => (hL2.alloc o).c6
      have d4 : w2.drew.cell? ⟨cb, 4, none⟩ = some (.int .i64 ((R k).sz : Int)) := hKc2.cell 4
      have y1 : W1.drew.cell? ⟨cb, 1, none⟩ = some (.int .i64 ((R k).ag : Int)) := hKc.cell 1
      have y3 : W1.drew.cell? ⟨g, 3, none⟩ = some (.int .i64 (ag : Int)) := hL1.drew.c3
      have em : ((k : Int) + (N : Int)) % (n : Int) = ((off L (m + 1) : Nat) : Int) := by
        rw [hos, ← HK.out, Int.natCast_add]
        exact Int.emod_eq_of_lt (by omega) (by omega)
      have et : Int.tmod ((k : Int) + (N : Int)) (n : Int) = ((off L (m + 1) : Nat) : Int) := by rw [Int.tmod_eq_emod_of_nonneg (by omega), em]
      rw [e2] at d4 z6
      rw [e1] at y1
      have hlt2 : k < off L (m + 1) := by rw [hos, ← HK.out]; omega
      have hl2 : off L (m + 1) < 1024 := by have := off_lt HG.out (m := m + 1) hml; omega
      have Hl2 := Lib.hid (And.intro hlt2 hl2)
      have Hml := Lib.hid hml
      rw [e1, e2]
      clear hT1 hS1 hL1 hg1 hKc hB hT2 hgr2 how2 hS2 hL2 hKc2 hg2 hS5 hgr5 how5 hT5 hL5 hKc5 hg5 hL6 hgs hT6 hS6 hKc6 hg6 hos hol hst hLt hsz ht hN e1 e2 HT HS HLm Hg HC hlt2 hl2 hml hown2 hown5
      have bq : ((ag : Int) != (ag : Int)) = false := by simp
      obtain ⟨k2, hk2⟩ : ∃ k2, k2 = off L (m + 1) := ⟨_, rfl⟩
      rw [← hk2] at em et Hl2
      have HK2 := Lib.hid hk2
      clear hk2
      go_wp2
      go_region
      all_goals (
        go_upto_region 10 with (at_builtin; refine wpList_append_run hap rfl _ _ rfl rfl rfl rfl ?_)
        have HAP := Lib.hid (show (Builtin.append_ #[45, 45] 45 #[.slice As m cs, .slice (some ⟨w2.heap.size, 0, none⟩) 1 1]).run Try.prog (w2.alloc (.cells #[.int .i64 (N : Int)] 3)).drew = .ok (.slice A5 (m + 1) c5) w5 from hap5)
        clear hap y1 y3 hap5
        go_region_law (first | (refine step_append_run7 hap6 rfl (.tmp 68) (.tmp 73) rfl rfl rfl rfl ?_) | (rw [if_pos (by simp [Region.wanted])]; unfold Oper.wp; go_simp; refine (hkp _).mono ?_; rintro e w8 ⟨rfl, hw8⟩; subst hw8; have hap6 := HAP.out; dsimp only))
        all_goals (
          clear HAP d6 d6' d4 x6 f6
          go_wp2_with (go_at_call 19; refine (hkp _).mono ?_; rintro e w9 ⟨rfl, hw9⟩; subst hw9)
          go_roundw
          case rel => exact ⟨m + 1, _, Hml.out, by rw [HK2.out], HF.out.1, HF.out.2.1, HF.out.2.2.1, HF.out.2.2.2⟩
          case measure => have := Hl2.out; simp [Go.RowKit.intOf]; omega))
    · have HF := Lib.hid (And.intro (show OwnV 9 W1.drew w.heap.size (.slice At m ct) (svs (L.take m)) from hT1.drew) (And.intro (show LAt W1.drew g p fr se ag fi 0 (.slice As m cs) from hL1.drew) (And.intro (show OwnV 3 W1.drew w.heap.size (.slice As m cs) (nts (szs L m)) from hS1.drew) (show w.grownBy W1.drew (some g) from grown_trans hg1 (grown_below (Below.refl _ _).drew _)))))
      have Hnf := Lib.hid hnf
      clear hT1 hS1 hL1 hg1 hKc hB hnf HT HS HLm Hg HC
      go_wp2
      go_region
      all_goals (
        go_wp2_with (go_at_call 35; refine (insist_yes _).mono ?_; rintro e w7 ⟨rfl, hw7⟩; subst hw7)
        go_ret
        exact ⟨m, _, _, hm, rfl, HF.out.1, HF.out.2.1, HF.out.2.2.1, HF.out.2.2.2, Hnf.out⟩)
end Go.Proofs.Ytcogglanbpphpaa
