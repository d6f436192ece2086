/-
  Package redo: the text of a record that lies in the ring, and whether all its pieces are there: a contract.
-/
import Derived.Test.YtcogglanbpphpaaLgSm
import Derived.Test.YtcogglanbpphpaaLgBd
import Derived.Laws.StructEq
import Derived.Deep.CutBlock
import Derived.Deep.DeepCutAuto
namespace Go.Proofs.Ytcogglanbpphpaa
open Go.RowKit

/-- The texts of so many pieces from a place on. -/
def recT (R : Nat → Ct) (n p : Nat) (m : Nat) : List UInt8 := (List.range m).flatMap fun i => (R ((p + i) % n)).tx
theorem recT_succ (R : Nat → Ct) (n p m : Nat) : recT R n p (m + 1) = recT R n p m ++ (R ((p + m) % n)).tx := by simp [recT, List.range_succ]
theorem recT_len {R : Nat → Ct} {n p : Nat} (hR : ∀ j, j < n → (R j).tx.length ≤ 36) (hn : 0 < n) (m : Nat) : (recT R n p m).length ≤ 36 * m := by
  induction m with
  | zero => simp [recT]
  | succ m ih =>
    rw [recT_succ, List.length_append]
    have := hR ((p + m) % n) (Nat.mod_lt _ hn)
    omega
/-- It is the piece that is wanted. -/
def PcOk (R : Nat → Ct) (n p ag nu sz i : Nat) : Prop := (R ((p + i) % n)).kd = 2 ∧ (R ((p + i) % n)).ag = ag ∧ (R ((p + i) % n)).nu = nu ∧ (R ((p + i) % n)).pl = i ∧ (R ((p + i) % n)).sz = sz
/-- What record tells. -/
def RecPost (w : World) (R : Nat → Ct) (n p ag nu sz : Nat) (e : Ending) (w' : World) : Prop :=
  Below w.heap.size w w' ∧ ((∀ i, i < np sz → PcOk R n p ag nu sz i) ∧ e = .returned (.tuple #[.string ⟨(recT R n p (np sz)).toArray⟩, .bool true]) ∨ (∃ i, i < np sz ∧ ¬ PcOk R n p ag nu sz i) ∧ e = .returned (.tuple #[.string ⟨#[]⟩, .bool false]))
def RecRel (w : World) (R : Nat → Ct) (n p ag nu sz wb bb : Nat) (i : Value) (wr : World) : Prop :=
  ∃ k : Nat, k ≤ np sz ∧ i = .int .i64 (k : Int) ∧ (∃ x : Int, Whole wr wb 55 [.int .i64 2, .int .i64 (ag : Int), .int .i64 (nu : Int), .int .i64 x, .int .i64 (sz : Int)]) ∧ BdAt wr bb w.heap.size (recT R n p k) ∧ Below w.heap.size w wr ∧ ∀ i, i < k → PcOk R n p ag nu sz i
/-- Two heads are compared. -/
theorem run_neq_head (a0 a1 a2 a3 a4 b0 b1 b2 b3 b4 : Int) (W : World) : (binOp .neq 55 (.agg #[.int .i64 a0, .int .i64 a1, .int .i64 a2, .int .i64 a3, .int .i64 a4]) (.agg #[.int .i64 b0, .int .i64 b1, .int .i64 b2, .int .i64 b3, .int .i64 b4])).run Try.prog W =
    .ok (.bool (!decide (a0 = b0 ∧ a1 = b1 ∧ a2 = b2 ∧ a3 = b3 ∧ a4 = b4))) W := by
  have u3 := Try.underlying3
  have a3' := Try.isAgg3
  have z3 := Try.sizeOf3
  have u5 := Try.underlying53
  have a5' := Try.isAgg53
  have z5 := Try.sizeOf53
  have hS : Try.prog.underlying 55 = some (.struct (Try.prog.fieldsOf 55)) := by kernel_rfl
  have hp : Try.prog.stoodInHeld 55 = false := by kernel_rfl
  rw [run_neq_struct, show (10000 : Nat) = 9999 + 1 from rfl, run_equalIn_agg W 9999 55 _ _ hS hp]
  simp only [Program.fieldsOf, Try.underlying55]
  go_simp
  by_cases h0 : a0 = b0 <;> by_cases h1 : a1 = b1 <;> by_cases h2 : a2 = b2 <;> by_cases h3 : a3 = b3 <;> by_cases h4 : a4 = b4 <;> simp [h0, h1, h2, h3, h4]
theorem BdAt.mono {w : World} {b base base' : Nat} {l : List UInt8} (h : BdAt w b base l) (hb : base' ≤ base) : BdAt w b base' l := by
  obtain ⟨a, v, h1, h2, h3, h4⟩ := h
  exact ⟨a, v, h1, h2, h3.mono hb, h4⟩
theorem BdAt.grown {w w' : World} {b base r : Nat} {l : List UInt8} (h : BdAt w b base l) (hg : w.grownBy w' (some r)) (hb : b ≠ r) (hr : ∀ a v, Whole w b 105 [a, v] → v.ownBlock ≠ some r) : BdAt w' b base l := by
  obtain ⟨a, v, h1, h2, h3, h4⟩ := h
  exact ⟨a, v, h1.grown hg hb, h2, h3.keep fun k hk => hg.block k (h3.lt k hk).2 (fun e => hr a v h1 (hk.trans e)), h4⟩
/-- The builder's bytes don't lie in a block of another type. -/
theorem BdAt.other {w w' : World} {b base r : Nat} {l : List UInt8} {t : TypeId} {cs : List Value} (h : BdAt w b base l) (hk : Whole w r t cs) (ht : t ≠ 5) (ht2 : t ≠ 105) (hg : w.grownBy w' (some r)) : BdAt w' b base l := by
  obtain ⟨a, v, h1, h2, h3, h4⟩ := h
  refine ⟨a, v, h1.grown hg (h1.ne hk (Ne.symm ht2)), h2, h3.keep fun k hk' => hg.block k (h3.lt k hk').2 (fun e => ?_), h4⟩
  injection e with e
  subst e
  rcases h3.2 with ⟨e, _⟩ | ⟨g, cap, cur, e, _, hh, _⟩
  · rw [e] at hk'
    simp [Value.ownBlock] at hk'
  · rw [e] at hk'
    have : g = k := by simpa [Value.ownBlock] using hk'
    subst this
    unfold Whole at hk
    rw [hk] at hh
    injection hh with hh
    injection hh with _ q
    exact ht q
set_option maxRecDepth 20000 in
set_option maxHeartbeats 2000000 in
theorem record_any {w : World} {b off n c p ag nu sz : Nat} {R : Nat → Ct} (h : RowCt w b off n R) (h1 : 1 ≤ n) (h2 : n ≤ 1024) (hp : p < n) (h3 : sz ≤ 1024) (hR : ∀ j, j < n → (R j).tx.length ≤ 36)
    (hne : (∀ i, i < np sz → PcOk R n p ag nu sz i) → recT R n p (np sz) ≠ []) :
    Calls Try.prog 53 #[.slice (some ⟨b, off, none⟩) n c, .int .i64 (p : Int), .agg #[.int .i64 2, .int .i64 (ag : Int), .int .i64 (nu : Int), .int .i64 0, .int .i64 (sz : Int)]] w (RecPost w R n p ag nu sz) := by
  have hnp : np sz ≤ 29 := by unfold np; omega
  have HR := Lib.hid h
  have HX := Lib.hid hR
  have HN := Lib.hid hne
  have hkp := fun W => pieces_any sz (by omega) W
  clear h hR hne
  go_enter Try.func53, Try.ntmps53
  go_wp2_with (go_at_call 19; refine (hkp _).mono ?_; rintro e w1 ⟨rfl, hw1⟩; subst hw1)
  have K1 := (Whole.new w #[.int .i64 2, .int .i64 (ag : Int), .int .i64 (nu : Int), .int .i64 0, .int .i64 (sz : Int)] 55).alloc (.cells #[.pointer none, .slice none 0 0] 105)
  have K2 := bdAt_new (w.alloc (.cells #[.int .i64 2, .int .i64 (ag : Int), .int .i64 (nu : Int), .int .i64 0, .int .i64 (sz : Int)] 55))
  have hB : Below w.heap.size w ((w.alloc (.cells #[.int .i64 2, .int .i64 (ag : Int), .int .i64 (nu : Int), .int .i64 0, .int .i64 (sz : Int)] 55)).alloc (.cells #[.pointer none, .slice none 0 0] 105)) := ((Below.refl _ _).alloc (Nat.le_refl _) _).alloc (by simp) _
  have K2 := K2.mono (base' := w.heap.size) (by simp)
  rw [show (w.alloc (.cells #[.int .i64 2, .int .i64 (ag : Int), .int .i64 (nu : Int), .int .i64 0, .int .i64 (sz : Int)] 55)).heap.size = w.heap.size + 1 by simp] at K2
  generalize (w.alloc (.cells #[.int .i64 2, .int .i64 (ag : Int), .int .i64 (nu : Int), .int .i64 0, .int .i64 (sz : Int)] 55)).alloc (.cells #[.pointer none, .slice none 0 0] 105) = W at K1 K2 hB ⊢
  generalize hwb : w.heap.size = wb at K1 ⊢
  rw [show w.heap.size + 1 = wb + 1 by rw [hwb]] at K2
  have Hwb := Lib.hid hwb
  clear hwb hkp
  go_loopw [14] (fun i wr => RecRel w R n p ag nu sz wb (wb + 1) i wr) (fun i _ => np sz - (Go.RowKit.intOf i).toNat)
  case atStart => exact ⟨0, Nat.zero_le _, rfl, ⟨0, K1⟩, K2, hB, fun i hi => absurd hi (by omega)⟩
  case round =>
    obtain ⟨k, hk, rfl, ⟨x, hK⟩, hD, hBw, hall⟩ := hrel
    clear K1 K2 hB
    have HA := Lib.hid hall
    have HD := Lib.hid hD
    have HB := Lib.hid hBw
    clear hall
    by_cases hlt : k < np sz
    · obtain ⟨j, hj⟩ : ∃ j, j = (p + k) % n := ⟨_, rfl⟩
      have hjn : j < n := by rw [hj]; exact Nat.mod_lt _ (by omega)
      have hm1 : ((p : Int) + (k : Int)) % (n : Int) = (j : Int) := by rw [hj, Int.natCast_emod, Int.natCast_add]
      have hm2 : Int.tmod ((p : Int) + (k : Int)) (n : Int) = (j : Int) := by rw [Int.tmod_eq_emod_of_nonneg (by omega), hm1]
      have x3 := hK.cell 3
      have f3 := hK.free 3
      simp only [List.getElem?_cons_succ, List.getElem?_cons_zero] at x3
      have hK1 : Whole (wr.setCell ⟨wb, 3, none⟩ (.int .i64 (k : Int))) wb 55 [.int .i64 2, .int .i64 (ag : Int), .int .i64 (nu : Int), .int .i64 (k : Int), .int .i64 (sz : Int)] := hK.set 3 (.int .i64 (k : Int))
      have hg1 := grown_set wr wb 3 (.int .i64 (k : Int))
      have hbw : b ≠ wb := by have := HR.out.lt; have := Hwb.out; omega
      have hR1 := (HR.out.below hBw).grown hg1 hbw
      have hD1 := hD.other hK (by decide) (by decide) hg1
      have hB1 := below_grown hBw hg1 hBw.size (by have := Hwb.out; omega)
      obtain ⟨c0, c1, c2, c3, c4, c5⟩ := hR1.get j hjn
      have HK1 := Lib.hid hK1
      have HD1 := Lib.hid hD1
      have HB1 := Lib.hid hB1
      have HJ := Lib.hid hj
      clear hK hD hBw hK1 hD1 hB1 hR1 hg1 hj HD HB
      unfold sv at c5
      go_upto_region 7 with (fail)
      clear c0 c1 c2 c3 c4 c5 x3 f3 hm1 hm2
      have K3 := Whole.new (wr.setCell ⟨wb, 3, none⟩ (.int .i64 (k : Int))) #[.int .i64 ((R j).kd : Int), .int .i64 ((R j).ag : Int), .int .i64 ((R j).nu : Int), .int .i64 ((R j).pl : Int), .int .i64 ((R j).sz : Int), .string ⟨(R j).tx.toArray⟩] 57
      rw [show (wr.setCell ⟨wb, 3, none⟩ (.int .i64 (k : Int))).heap.size = wr.heap.size by simp [World.setCell]] at K3
      have hK2 := HK1.out.alloc (.cells #[.int .i64 ((R j).kd : Int), .int .i64 ((R j).ag : Int), .int .i64 ((R j).nu : Int), .int .i64 ((R j).pl : Int), .int .i64 ((R j).sz : Int), .string ⟨(R j).tx.toArray⟩] 57)
      have hD2 := HD1.out.below ((Below.refl _ _).alloc (Nat.le_refl _) (.cells #[.int .i64 ((R j).kd : Int), .int .i64 ((R j).ag : Int), .int .i64 ((R j).nu : Int), .int .i64 ((R j).pl : Int), .int .i64 ((R j).sz : Int), .string ⟨(R j).tx.toArray⟩] 57))
      have hB2 := HB1.out.alloc HB1.out.size (.cells #[.int .i64 ((R j).kd : Int), .int .i64 ((R j).ag : Int), .int .i64 ((R j).nu : Int), .int .i64 ((R j).pl : Int), .int .i64 ((R j).sz : Int), .string ⟨(R j).tx.toArray⟩] 57)
      generalize (wr.setCell ⟨wb, 3, none⟩ (.int .i64 (k : Int))).alloc (.cells #[.int .i64 ((R j).kd : Int), .int .i64 ((R j).ag : Int), .int .i64 ((R j).nu : Int), .int .i64 ((R j).pl : Int), .int .i64 ((R j).sz : Int), .string ⟨(R j).tx.toArray⟩] 57) = W2 at K3 hK2 hD2 hB2 ⊢
      generalize wr.heap.size = cb at K3 ⊢
      have hok : PcOk R n p ag nu sz k ↔ (R j).kd = 2 ∧ (R j).ag = ag ∧ (R j).nu = nu ∧ (R j).pl = k ∧ (R j).sz = sz := by rw [PcOk, ← HJ.out]
      have HOK := Lib.hid hok
      have htx : recT R n p (k + 1) = recT R n p k ++ (R j).tx := by rw [recT_succ, ← HJ.out]
      have HTX := Lib.hid htx
      have hl1 := recT_len HX.out h1 (p := p) k
      have hl2 := HX.out j hjn
      have HL := Lib.hid (And.intro hl1 hl2)
      have y0 := K3.cell 0
      have y1 := K3.cell 1
      have y2 := K3.cell 2
      have y3 := K3.cell 3
      have y4 := K3.cell 4
      have y5 := K3.cell 5
      have z0 := hK2.cell 0
      have z1 := hK2.cell 1
      have z2 := hK2.cell 2
      have z3 := hK2.cell 3
      have z4 := hK2.cell 4
      simp only [List.getElem?_cons_succ, List.getElem?_cons_zero] at y0 y1 y2 y3 y4 y5 z0 z1 z2 z3 z4
      have HK3 := Lib.hid K3
      have HK2 := Lib.hid hK2
      have HD2 := Lib.hid hD2
      have HB2 := Lib.hid hB2
      clear hok htx hl1 hl2 K3 hK2 hD2 hB2 HK1 HD1 HB1
      generalize (R j).kd = a0 at *
      generalize (R j).ag = a1 at *
      generalize (R j).nu = a2 at *
      generalize (R j).pl = a3 at *
      generalize (R j).sz = a4 at *
      have q := run_neq_head a0 a1 a2 a3 a4 2 ag nu k sz
      by_cases hq : a0 = 2 ∧ a1 = ag ∧ a2 = nu ∧ a3 = k ∧ a4 = sz
      · rw [show decide ((a0 : Int) = 2 ∧ (a1 : Int) = ag ∧ (a2 : Int) = nu ∧ (a3 : Int) = k ∧ (a4 : Int) = sz) = true from decide_eq_true (by omega)] at q
        have HQ := Lib.hid (HOK.out.2 hq)
        simp only [Bool.not_true] at q
        clear hq
        have hws := writeString_any HD2.out HB2.out.size (by have := Hwb.out; omega) ⟨(R j).tx.toArray⟩ (by
          have := HL.out
          show _ + (R j).tx.toArray.size ≤ _
          simp
          omega)
        have HWS := Lib.hid hws
        clear hws
        have hwb : wb ≠ wb + 1 := by omega
        go_wp2_with (go_at_call 70; refine HWS.out.mono ?_; rintro e w3 ⟨⟨v3, rfl⟩, hD3, hB3, hkp⟩)
        refine ⟨⟨k + 1, hlt, by go_num, ⟨_, hkp _ _ _ HK2.out (by decide) hwb⟩, by rw [HTX.out]; exact hD3, HB2.out.trans hB3, fun i hi => ?_⟩, by simp [Go.RowKit.intOf]; omega⟩
        by_cases e : i = k
        · subst e
          exact HQ.out
        · exact HA.out i (by omega)
      · rw [show decide ((a0 : Int) = 2 ∧ (a1 : Int) = ag ∧ (a2 : Int) = nu ∧ (a3 : Int) = k ∧ (a4 : Int) = sz) = false from decide_eq_false (by omega)] at q
        have HQ := Lib.hid (fun e => hq (HOK.out.1 e))
        simp only [Bool.not_false] at q
        clear hq
        go_wp2
        go_ret2
        exact ⟨HB2.out, .inr ⟨⟨k, hlt, HQ.out⟩, rfl⟩⟩
    · obtain rfl : k = np sz := by omega
      clear hlt
      have hS := string_any HD.out (HN.out HA.out) (by have := recT_len HX.out h1 (p := p) (np sz); omega)
      go_wp2_with (go_at_call 71; refine hS.mono ?_; rintro e w3 ⟨rfl, hB3⟩)
      go_ret2
      exact ⟨HB.out.trans hB3, .inl ⟨HA.out, rfl⟩⟩
end Go.Proofs.Ytcogglanbpphpaa
