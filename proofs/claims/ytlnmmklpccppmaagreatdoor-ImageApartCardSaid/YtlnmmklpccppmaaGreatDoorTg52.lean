/-
  A reader reads a state: the walk.
-/
import Derived.Test.YtlnmmklpccppmaaGreatDoorTg51
import Derived.Test.YtlnmmklpccppmaaGreatDoorTg46
import Derived.Test.YtlnmmklpccppmaaGreatDoorTg37
import Derived.Lib.ConvBytes
import Derived.Deep.DeepCutAuto
namespace Go.Proofs.YtlnmmklpccppmaaGreatDoor
open Go.RowKit
theorem conv_str (w : World) (l : List UInt8) : ∃ c w2, (convert 9 29 (.string ⟨l.toArray⟩)).run Tryz.prog w = .ok (.slice (some ⟨w.heap.size, 0, none⟩) l.length c) w2 ∧ Rd w2 (some ⟨w.heap.size, 0, none⟩) l.length l ∧ Below w.heap.size w w2 := by
  refine ⟨_, _, Lib.run_convert_string_bytes w 9 29 5 ⟨l.toArray⟩ Tryz.underlying9 Tryz.underlying29 Tryz.underlying5, ⟨rfl, fun _ => ⟨w.heap.size, 0, rfl, by rw [Lib.bytesWorld_size]; omega, fun j x hx => ?_⟩⟩, ⟨?_, ?_, ?_, ?_, fun k hk => Lib.bytesWorld_at_old _ _ _ _ hk⟩⟩
  · have hj : j < l.length := (List.getElem?_eq_some_iff.1 hx).1
    rw [Nat.zero_add, Lib.bytesWorld_cell w 5 ⟨l.toArray⟩ j (by simpa [ByteArray.size] using hj)]
    simp [List.getD_eq_getElem?_getD, hx]
  · simp [Lib.bytesWorld, World.freeze, World.alloc, World.drew, -World.alloc_eq, -World.drew_eq]
  · simp [Lib.bytesWorld, World.freeze, World.alloc, World.drew, -World.alloc_eq, -World.drew_eq]
  · simp [Lib.bytesWorld, World.freeze, World.alloc, World.drew, -World.alloc_eq, -World.drew_eq]
  · rw [Lib.bytesWorld_size]; omega
theorem mustStr_yes (v : ByteArray) (w : World) : Calls Tryz.prog 92 #[.string v, .int .i64 0] w fun e w' => e = .returned (.string v) ∧ w = w' := by
  go_enter Tryz.func92, Tryz.ntmps92
  go_wp2
  go_ret
  exact ⟨rfl, rfl⟩
theorem mustStr_no (v : ByteArray) (er : Int) (w : World) (he : (er != 0) = true) : Calls Tryz.prog 92 #[.string v, .int .i64 er] w fun e w' => e = .panicked gone ∧ w = w' := by
  go_enter Tryz.func92, Tryz.ntmps92
  go_wp2_with fail
  refine (giveUp_any _).mono ?_
  rintro e w' ⟨rfl, rfl⟩
  go_wp2
  exact ⟨rfl, rfl, rfl⟩
/-- What comes of reading a state. -/
def StateRead (w : World) (g : Nat) (l : List UInt8) (e : Ending) (w' : World) : Prop :=
  w.grownBy w' (some g) ∧ ((∃ S s os r t k, e = .returned (sval S s) ∧ OwnSt w' w.heap.size s os S ∧ Rdr w' g r ∧ rtext l = (t, k, 0) ∧ GetsH t (some S.hp) ∧ prows 4 (l.drop k) = some (S.rs, r) ∧ RowsOk S.rs) ∨
    (e = .panicked gone ∧ GetsS l none))
/-- The boxes of state, and the reader's. -/
structure StMem (w : World) (g : Nat) (l : List UInt8) (o : Nat) (W : World) (H : Hp) (s : HSl) (os : List (Ob × OSl)) : Prop where
  rb : Whole W w.heap.size 83 [.pointer (some ⟨g, 0, none⟩)]
  res : Whole W (w.heap.size + 1) 39 zst
  hb : Whole W o 26 (hcs H s)
  own : OwnHp W (w.heap.size + 2) s os H
  rd : Rdr W g l
  gr : w.grownBy W (some g)
  lt : w.heap.size + 1 < o
theorem StMem.call {w W W2 : World} {g o : Nat} {l l2 : List UInt8} {H : Hp} {s : HSl} {os : List (Ob × OSl)} (h : StMem w g l o W H s os) (hg : g < w.heap.size) (k : W.grownBy W2 (some g)) (r : Rdr W2 g l2) : StMem w g l2 o W2 H s os := by
  have := h.lt
  exact ⟨h.rb.grown k (by omega), h.res.grown k (by omega), h.hb.grown k (by omega), h.own.grownI k (by omega), r, grown_trans h.gr k, h.lt⟩
theorem StMem.rise {w W W2 : World} {g o : Nat} {l : List UInt8} {H : Hp} {s : HSl} {os : List (Ob × OSl)} (h : StMem w g l o W H s os) (b : Below W.heap.size W W2) : StMem w g l o W2 H s os :=
  ⟨h.rb.below b, h.res.below b, h.hb.below b, h.own.below b, h.rd.keep b h.rd.lt, grown_trans h.gr (grown_below b _), h.lt⟩
theorem zst_nob : ∀ u ∈ zst, ∀ x, u ≠ .int .u8 x := by
  intro u hu x e
  subst e
  simp [zst] at hu
theorem prows_1 {l : List UInt8} (h : pnum l = none) : prows 4 l = none := by unfold prows; rw [h]; rfl
theorem prows_2 {l l1 : List UInt8} {n : Nat} (h : pnum l = some ((n : Int), l1)) {o : Option (List Rw × List UInt8)} (h2 : (if 4 < n then none else prep prow n l1) = o) : prows 4 l = o := by
  unfold prows
  rw [h, Option.bind_some]
  simp only
  by_cases q : 4 < n
  · rw [if_pos q] at h2
    rw [if_pos (by omega)]
    exact h2
  · rw [if_neg q] at h2
    rw [if_neg (by omega), Int.toNat_natCast]
    exact h2
theorem no_rows {l t : List UInt8} {k : Nat} (ht : rtext l = (t, k, 0)) (hp : prows 4 (l.drop k) = none) : GetsS l none :=
  getss_no_rows (m := 4) (by omega) (by omega) ht (fun rs h => by rw [hp] at h; cases h)
set_option maxRecDepth 20000 in
set_option maxHeartbeats 4000000 in
theorem rdState_any (g : Nat) (l : List UInt8) (w : World) (hr : Rdr w g l) (hT : Tab w) (hTg : 0 ≠ g) :
    Calls Tryz.prog 51 #[rdv g] w (StateRead w g l) := by
  have hgl := hr.lt
  have Hmf : Hid (∀ (fn : Fn) (first cap : Array Value) (w : World), (Instr.makeFunc fn first cap).run Tryz.prog w = .ok (.func fn first cap) w) := Lib.hid fun _ _ _ _ => rfl
  unfold rdv
  go_enter Tryz.func51, Tryz.ntmps51
  go_upto_region 1 with (fail)
  have KB := (Whole.new w #[.pointer (some ⟨g, 0, none⟩)] 83).alloc (.cells zst.toArray 39)
  have KO := Whole.new (w.alloc (.cells #[.pointer (some ⟨g, 0, none⟩)] 83)) zst.toArray 39
  rw [show (w.alloc (.cells #[.pointer (some ⟨g, 0, none⟩)] 83)).heap.size = w.heap.size + 1 by simp] at KO
  have B0 := ((Below.refl w.heap.size w).alloc (Nat.le_refl _) (.cells #[.pointer (some ⟨g, 0, none⟩)] 83)).alloc (by simp) (.cells zst.toArray 39)
  have R0 := hr.keep B0 hgl
  have T0 := hT.below B0
  simp only [zst] at KB KO B0 R0 T0
  generalize (w.alloc (.cells _ 83)).alloc (.cells _ 39) = W at KB KO B0 R0 T0 ⊢
  have b0 := KB.cell 0
  go_wp2_with fail
  refine (text_any g l W R0).mono ?_
  rintro e w1 ⟨rfl, hr1, hg1⟩
  have G1 := Lib.hid (grown_trans (grown_below B0 (some g)) hg1)
  have KB1 := Lib.hid (KB.grown hg1 (by omega))
  have KO1 := Lib.hid (KO.grown hg1 (by omega))
  have T1 := Lib.hid (T0.beside hg1 hTg)
  clear KB KO B0 R0 T0 hg1 b0
  obtain ⟨t, ht⟩ : ∃ t, t = (rtext l).1 := ⟨_, rfl⟩
  obtain ⟨k, hk⟩ : ∃ k, k = (rtext l).2.1 := ⟨_, rfl⟩
  obtain ⟨er, her⟩ : ∃ er, er = (rtext l).2.2 := ⟨_, rfl⟩
  rw [← ht, ← her]
  rw [← hk] at hr1
  by_cases he0 : er = 0
  case neg =>
    have hb : (er != 0) = true := by simp [he0]
    have Hst := Lib.hid (getss_no_text (b := l) (by rw [← her]; exact he0))
    clear ht hk her he0 hr1
    go_wp2_with fail
    refine (mustStr_no _ er w1 hb).mono ?_
    rintro e w2 ⟨rfl, rfl⟩
    go_wp2
    exact ⟨rfl, G1.out, .inr ⟨rfl, Hst.out⟩⟩
  subst he0
  have Htx := Lib.hid (show rtext l = (t, k, 0) by rw [ht, hk, her])
  have hr1 := Lib.hid hr1
  clear ht hk her
  go_wp2_with fail
  refine (mustStr_yes _ w1).mono ?_
  rintro e w1' ⟨rfl, rfl⟩
  obtain ⟨cx, w2, kc, rx, bx⟩ := conv_str w1 t
  have S2 := getHeap_any (some ⟨w1.heap.size, 0, none⟩) t.length cx t w2 rx (by
    have := Htx.out
    unfold rtext at this
    split at this
    · injection this with h1 h2; rw [← h1]; simp
    · split at this
      · injection this with h1 h2; rw [← h1]; simp
      · split at this
        · injection this with h1 h2; rw [← h1]; simp
        · injection this with h1 h2
          rw [← h1, List.length_take]
          omega) (T1.out.below bx)
  have hbx := Lib.hid bx
  obtain ⟨nt, hnt⟩ : ∃ nt, nt = t.length := ⟨_, rfl⟩
  rw [← hnt] at S2 kc
  clear rx bx hnt
  go_wp2_with fail
  refine S2.mono ?_
  rintro e w3 ⟨b3, hgot⟩
  have hb3 := Lib.hid (hbx.out.trans (b3.mono hbx.out.size))
  have G3 := Lib.hid (grown_trans G1.out (grown_below hb3.out (some g)))
  clear S2 kc
  rcases hgot with ⟨H, ⟨A, n, c, F, m, d⟩, os, rfl, O3, hG⟩ | ⟨rfl, hG⟩
  case inr =>
    have Hst := Lib.hid (getss_no_heap Htx.out hG)
    clear hG b3
    go_wp2_with fail
    refine (mustHeap_no zeroH ⟨none, 0, 0, none, 0, 0⟩ 60 w3 rfl).mono ?_
    rintro e w4 ⟨rfl, b4⟩
    have G4 := Lib.hid (grown_trans G3.out (grown_below b4 (some g)))
    clear b4
    go_wp2
    exact ⟨rfl, G4.out, .inr ⟨rfl, Hst.out⟩⟩
  have HG := Lib.hid hG
  have HO3 := Lib.hid O3
  have hs2 := Lib.hid (show w.heap.size + 2 ≤ w2.heap.size by have := KO1.out.lt; have := hbx.out.size; omega)
  clear hG b3 O3
  have S4 := mustHeap_yes H ⟨A, n, c, F, m, d⟩ w3
  simp only [hval, hcs] at S4
  simp only [hval, hcs]
  go_wp2_with fail
  refine S4.mono ?_
  rintro e w4 ⟨rfl, b4⟩
  have HB4 := Lib.hid (hb3.out.trans (b4.mono hb3.out.size))
  have M4 : StMem w g (l.drop k) w4.heap.size (w4.alloc (.cells #[.int .i64 H.od, .slice A n c, .int .i64 H.nx, .int .i64 (tget H 0), .int .i64 (tget H 1), .int .i64 (tget H 2), .int .i64 (tget H 3), .slice F m d] 26)) H ⟨A, n, c, F, m, d⟩ os :=
    ⟨(KB1.out.below HB4.out).alloc _, (KO1.out.below HB4.out).alloc _, Whole.new w4 #[.int .i64 H.od, .slice A n c, .int .i64 H.nx, .int .i64 (tget H 0), .int .i64 (tget H 1), .int .i64 (tget H 2), .int .i64 (tget H 3), .slice F m d] 26,
      ((HO3.out.below b4).below ((Below.refl _ _).alloc (Nat.le_refl _) _)).mono hs2.out, (hr1.out.keep HB4.out hr1.out.lt).alloc _, grown_trans (grown_trans G1.out (grown_below HB4.out (some g))) (grown_below ((Below.refl _ _).alloc (Nat.le_refl _) _) _), (KO1.out.below HB4.out).lt⟩
  have HM4 := Lib.hid M4
  clear M4 b4 HB4 HO3 hb3 G3 S4 KB1 KO1 T1 G1 hr1 hbx hs2
  go_upto_region 3 with (fail)
  generalize w4.alloc (.cells _ 26) = W4 at HM4 ⊢
  have M0 := Lib.hid (HM4.out.rise (Below.refl W4.heap.size W4).drew)
  have hmf := Hmf.out
  obtain ⟨o, ho⟩ : ∃ o, o = w4.heap.size := ⟨_, rfl⟩
  rw [← ho] at M0 ⊢
  clear ho HM4
  go_cut [5] (fun v wc => ∃ (rs : List Rw) (r' : List UInt8) (Ao : Option Addr) (cn co : Nat), v = .slice Ao cn co ∧ prows 4 (l.drop k) = some (rs, r') ∧ rs.length = cn ∧ StMem w g r' o wc H ⟨A, n, c, F, m, d⟩ os ∧ OwnW wc (w.heap.size + 2) (.slice Ao cn co) rs)
  case first =>
    repeat (rename ∀ (a : Act) (w : World), Code.wp _ _ _ a w → _ => hh; clear hh)
    cases hq4 : pnum (l.drop k) with
    | none =>
      have HN := Lib.hid (fun W R => rdNumber_any g (l.drop k) W R)
      rw [hq4] at HN
      have Hst := Lib.hid (no_rows Htx.out (prows_1 hq4))
      clear hq4
      refine wp_region_any (by kernel_rfl) ?_
      change wpAny _ _ _ _ _ _ _ (World.drew _)
      refine wpAny_ready (rs := [0, 2]) (by kernel_rfl) (by simp) ?_
      refine AllReady.cons rfl (fun K hK => ?_) (AllReady.cons rfl (fun K hK => ?_) (AllReady.nil))
      · skip
        have b1 := M0.out.rb.cell 0
        go_simp
        refine hK _ _ ?_
        clear hK K
        clear b1
        refine wpAny_ready (rs := [1, 2]) (by kernel_rfl) (by simp) ?_
        refine AllReady.cons rfl (fun K hK => ?_) (AllReady.cons rfl (fun K hK => ?_) (AllReady.nil))
        · skip
          go_simp
          go_wp2_with (go_at_call 84; refine (HN.out _ M0.out.rd).mono ?_; rintro e wq2 ⟨hg2, rfl⟩)
          exact ⟨rfl, grown_trans M0.out.gr hg2, .inr ⟨rfl, Hst.out⟩⟩
        · skip
          have b3 := M0.out.rb.cell 0
          go_simp
          refine hK _ _ ?_
          clear hK K
          clear b3
          refine take_put (i := 3) (d := 21) (v := ?_) rfl rfl (by kernel_rfl) (by kernel_rfl) (by kernel_rfl) (fun _ _ _ h => h) (Or.inl ⟨by rfl, ?_⟩) ?_
          rotate_left
          · intro w; go_simp; with_reducible rfl
          conv =>
            arg 7
            simp only [List.setIfInBounds_toArray, List.set_cons_succ, List.set_cons_zero]
          refine wpAny_ready (rs := [1]) (by kernel_rfl) (by simp) ?_
          refine AllReady.cons rfl (fun K hK => ?_) (AllReady.nil)
          go_simp
          go_wp2_with (go_at_call 84; refine (HN.out _ M0.out.rd).mono ?_; rintro e wq4 ⟨hg4, rfl⟩)
          exact ⟨rfl, grown_trans M0.out.gr hg4, .inr ⟨rfl, Hst.out⟩⟩
      · skip
        have b5 := M0.out.rb.cell 0
        go_simp
        refine hK _ _ ?_
        clear hK K
        clear b5
        refine take_put (i := 3) (d := 21) (v := ?_) rfl rfl (by kernel_rfl) (by kernel_rfl) (by kernel_rfl) (fun _ _ _ h => h) (Or.inl ⟨by rfl, ?_⟩) ?_
        rotate_left
        · intro w; go_simp; with_reducible rfl
        conv =>
          arg 7
          simp only [List.setIfInBounds_toArray, List.set_cons_succ, List.set_cons_zero]
        refine wpAny_ready (rs := [0]) (by kernel_rfl) (by simp) ?_
        refine AllReady.cons rfl (fun K hK => ?_) (AllReady.nil)
        have b6 := M0.out.rb.cell 0
        go_simp
        refine hK _ _ ?_
        clear hK K
        clear b6
        refine wpAny_ready (rs := [1]) (by kernel_rfl) (by simp) ?_
        refine AllReady.cons rfl (fun K hK => ?_) (AllReady.nil)
        go_simp
        go_wp2_with (go_at_call 84; refine (HN.out _ M0.out.rd).mono ?_; rintro e wq7 ⟨hg7, rfl⟩)
        exact ⟨rfl, grown_trans M0.out.gr hg7, .inr ⟨rfl, Hst.out⟩⟩
    | some q =>
      obtain ⟨cn, l5⟩ := q
      have HN := Lib.hid (fun W R => rdNumber_any g (l.drop k) W R)
      rw [hq4] at HN
      have hc0 := (pnum_codec.sound _ _ _ hq4).1.1
      obtain ⟨cn, rfl⟩ := Int.eq_ofNat_of_zero_le hc0
      have HLo := Lib.hid (fun W R => listRow_any cn 4 (by omega) g l5 W R)
      simp only [rdv] at HLo
      cases hq5 : (if 4 < cn then none else prep prow cn l5) with
      | none =>
        rw [hq5] at HLo
        have Hst := Lib.hid (no_rows Htx.out (prows_2 hq4 hq5))
        clear hq4 hq5 hc0
        refine wp_region_any (by kernel_rfl) ?_
        change wpAny _ _ _ _ _ _ _ (World.drew _)
        refine wpAny_ready (rs := [0, 2]) (by kernel_rfl) (by simp) ?_
        refine AllReady.cons rfl (fun K hK => ?_) (AllReady.cons rfl (fun K hK => ?_) (AllReady.nil))
        · skip
          have b1 := M0.out.rb.cell 0
          go_simp
          refine hK _ _ ?_
          clear hK K
          clear b1
          refine wpAny_ready (rs := [1, 2]) (by kernel_rfl) (by simp) ?_
          refine AllReady.cons rfl (fun K hK => ?_) (AllReady.cons rfl (fun K hK => ?_) (AllReady.nil))
          · skip
            go_simp
            go_wp2_with (go_at_call 84; refine (HN.out _ M0.out.rd).mono ?_; rintro e wq2 ⟨hg2, v2, rfl, rfl, hr2⟩)
            have M2 := Lib.hid (M0.out.call hgl hg2 hr2)
            clear hg2 hr2
            refine wpAny_ready (rs := [2]) (by kernel_rfl) (by simp) ?_
            refine AllReady.cons rfl (fun K hK => ?_) (AllReady.nil)
            have b3 := M2.out.rb.cell 0
            go_simp
            refine hK _ _ ?_
            clear hK K
            clear b3
            refine take_put (i := 3) (d := 21) (v := ?_) rfl rfl (by kernel_rfl) (by kernel_rfl) (by kernel_rfl) (fun _ _ _ h => h) (Or.inl ⟨by rfl, ?_⟩) ?_
            rotate_left
            · intro w; go_simp; with_reducible rfl
            conv =>
              arg 7
              simp only [List.setIfInBounds_toArray, List.set_cons_succ, List.set_cons_zero]
            refine wpAny_ready (rs := [4]) (by kernel_rfl) (by simp) ?_
            refine AllReady.cons rfl (fun K hK => ?_) (AllReady.nil)
            go_simp
            go_wp2_with (go_at_call 94; refine (HLo.out _ M2.out.rd).mono ?_; rintro e wq4 ⟨hg4, rfl⟩)
            exact ⟨rfl, grown_trans M2.out.gr hg4, .inr ⟨rfl, Hst.out⟩⟩
          · skip
            have b5 := M0.out.rb.cell 0
            go_simp
            refine hK _ _ ?_
            clear hK K
            clear b5
            refine take_put (i := 3) (d := 21) (v := ?_) rfl rfl (by kernel_rfl) (by kernel_rfl) (by kernel_rfl) (fun _ _ _ h => h) (Or.inl ⟨by rfl, ?_⟩) ?_
            rotate_left
            · intro w; go_simp; with_reducible rfl
            conv =>
              arg 7
              simp only [List.setIfInBounds_toArray, List.set_cons_succ, List.set_cons_zero]
            refine wpAny_ready (rs := [1]) (by kernel_rfl) (by simp) ?_
            refine AllReady.cons rfl (fun K hK => ?_) (AllReady.nil)
            go_simp
            go_wp2_with (go_at_call 84; refine (HN.out _ M0.out.rd).mono ?_; rintro e wq6 ⟨hg6, v6, rfl, rfl, hr6⟩)
            have M6 := Lib.hid (M0.out.call hgl hg6 hr6)
            clear hg6 hr6
            refine wpAny_ready (rs := [4]) (by kernel_rfl) (by simp) ?_
            refine AllReady.cons rfl (fun K hK => ?_) (AllReady.nil)
            go_simp
            go_wp2_with (go_at_call 94; refine (HLo.out _ M6.out.rd).mono ?_; rintro e wq7 ⟨hg7, rfl⟩)
            exact ⟨rfl, grown_trans M6.out.gr hg7, .inr ⟨rfl, Hst.out⟩⟩
        · skip
          have b8 := M0.out.rb.cell 0
          go_simp
          refine hK _ _ ?_
          clear hK K
          clear b8
          refine take_put (i := 3) (d := 21) (v := ?_) rfl rfl (by kernel_rfl) (by kernel_rfl) (by kernel_rfl) (fun _ _ _ h => h) (Or.inl ⟨by rfl, ?_⟩) ?_
          rotate_left
          · intro w; go_simp; with_reducible rfl
          conv =>
            arg 7
            simp only [List.setIfInBounds_toArray, List.set_cons_succ, List.set_cons_zero]
          refine wpAny_ready (rs := [0]) (by kernel_rfl) (by simp) ?_
          refine AllReady.cons rfl (fun K hK => ?_) (AllReady.nil)
          have b9 := M0.out.rb.cell 0
          go_simp
          refine hK _ _ ?_
          clear hK K
          clear b9
          refine wpAny_ready (rs := [1]) (by kernel_rfl) (by simp) ?_
          refine AllReady.cons rfl (fun K hK => ?_) (AllReady.nil)
          go_simp
          go_wp2_with (go_at_call 84; refine (HN.out _ M0.out.rd).mono ?_; rintro e wq10 ⟨hg10, v10, rfl, rfl, hr10⟩)
          have M10 := Lib.hid (M0.out.call hgl hg10 hr10)
          clear hg10 hr10
          refine wpAny_ready (rs := [4]) (by kernel_rfl) (by simp) ?_
          refine AllReady.cons rfl (fun K hK => ?_) (AllReady.nil)
          go_simp
          go_wp2_with (go_at_call 94; refine (HLo.out _ M10.out.rd).mono ?_; rintro e wq11 ⟨hg11, rfl⟩)
          exact ⟨rfl, grown_trans M10.out.gr hg11, .inr ⟨rfl, Hst.out⟩⟩
      | some q =>
        obtain ⟨rs, r'⟩ := q
        rw [hq5] at HLo
        have H8 := Lib.hid (prows_2 hq4 hq5)
        have HLn := Lib.hid (show rs.length = cn by
          split at hq5
          · cases hq5
          · exact prep_len hq5)
        clear hq4 hq5 hc0
        refine wp_region_any (by kernel_rfl) ?_
        change wpAny _ _ _ _ _ _ _ (World.drew _)
        refine wpAny_ready (rs := [0, 2]) (by kernel_rfl) (by simp) ?_
        refine AllReady.cons rfl (fun K hK => ?_) (AllReady.cons rfl (fun K hK => ?_) (AllReady.nil))
        · skip
          have b1 := M0.out.rb.cell 0
          go_simp
          refine hK _ _ ?_
          clear hK K
          clear b1
          refine wpAny_ready (rs := [1, 2]) (by kernel_rfl) (by simp) ?_
          refine AllReady.cons rfl (fun K hK => ?_) (AllReady.cons rfl (fun K hK => ?_) (AllReady.nil))
          · skip
            go_simp
            go_wp2_with (go_at_call 84; refine (HN.out _ M0.out.rd).mono ?_; rintro e wq2 ⟨hg2, v2, rfl, rfl, hr2⟩)
            have M2 := Lib.hid (M0.out.call hgl hg2 hr2)
            clear hg2 hr2
            refine wpAny_ready (rs := [2]) (by kernel_rfl) (by simp) ?_
            refine AllReady.cons rfl (fun K hK => ?_) (AllReady.nil)
            have b3 := M2.out.rb.cell 0
            go_simp
            refine hK _ _ ?_
            clear hK K
            clear b3
            refine take_put (i := 3) (d := 21) (v := ?_) rfl rfl (by kernel_rfl) (by kernel_rfl) (by kernel_rfl) (fun _ _ _ h => h) (Or.inl ⟨by rfl, ?_⟩) ?_
            rotate_left
            · intro w; go_simp; with_reducible rfl
            conv =>
              arg 7
              simp only [List.setIfInBounds_toArray, List.set_cons_succ, List.set_cons_zero]
            refine wpAny_ready (rs := [4]) (by kernel_rfl) (by simp) ?_
            refine AllReady.cons rfl (fun K hK => ?_) (AllReady.nil)
            go_simp
            go_wp2_with (go_at_call 94; refine (HLo.out _ M2.out.rd).mono ?_; rintro e wq4 ⟨hg4, v4, rfl, oo4, hr4⟩)
            have oM := Lib.hid (M2.out.call hgl hg4 hr4)
            have oO := Lib.hid (oo4.mono (base' := w.heap.size + 2) (by have := M2.out.lt; have := M2.out.hb.lt; omega))
            obtain ⟨Ao, co, rfl, _, _, _⟩ := oo4.shape HLn.out
            clear hg4 hr4 oo4
            refine take_put (i := 5) (d := 5) (v := ?_) rfl rfl (by kernel_rfl) (by kernel_rfl) (by kernel_rfl) (fun _ _ _ h => h) (Or.inl ⟨by rfl, ?_⟩) ?_
            rotate_left
            · intro w; go_simp; with_reducible rfl
            conv =>
              arg 7
              simp only [List.setIfInBounds_toArray, List.set_cons_succ, List.set_cons_zero]
            refine wpAny_done (by kernel_rfl) ?_ _
            go_wp2_with fail
            go_meet
            exact ⟨rs, r', Ao, cn, co, rfl, H8.out, HLn.out, oM.out, oO.out⟩
          · skip
            have b5 := M0.out.rb.cell 0
            go_simp
            refine hK _ _ ?_
            clear hK K
            clear b5
            refine take_put (i := 3) (d := 21) (v := ?_) rfl rfl (by kernel_rfl) (by kernel_rfl) (by kernel_rfl) (fun _ _ _ h => h) (Or.inl ⟨by rfl, ?_⟩) ?_
            rotate_left
            · intro w; go_simp; with_reducible rfl
            conv =>
              arg 7
              simp only [List.setIfInBounds_toArray, List.set_cons_succ, List.set_cons_zero]
            refine wpAny_ready (rs := [1]) (by kernel_rfl) (by simp) ?_
            refine AllReady.cons rfl (fun K hK => ?_) (AllReady.nil)
            go_simp
            go_wp2_with (go_at_call 84; refine (HN.out _ M0.out.rd).mono ?_; rintro e wq6 ⟨hg6, v6, rfl, rfl, hr6⟩)
            have M6 := Lib.hid (M0.out.call hgl hg6 hr6)
            clear hg6 hr6
            refine wpAny_ready (rs := [4]) (by kernel_rfl) (by simp) ?_
            refine AllReady.cons rfl (fun K hK => ?_) (AllReady.nil)
            go_simp
            go_wp2_with (go_at_call 94; refine (HLo.out _ M6.out.rd).mono ?_; rintro e wq7 ⟨hg7, v7, rfl, oo7, hr7⟩)
            have oM := Lib.hid (M6.out.call hgl hg7 hr7)
            have oO := Lib.hid (oo7.mono (base' := w.heap.size + 2) (by have := M6.out.lt; have := M6.out.hb.lt; omega))
            obtain ⟨Ao, co, rfl, _, _, _⟩ := oo7.shape HLn.out
            clear hg7 hr7 oo7
            refine take_put (i := 5) (d := 5) (v := ?_) rfl rfl (by kernel_rfl) (by kernel_rfl) (by kernel_rfl) (fun _ _ _ h => h) (Or.inl ⟨by rfl, ?_⟩) ?_
            rotate_left
            · intro w; go_simp; with_reducible rfl
            conv =>
              arg 7
              simp only [List.setIfInBounds_toArray, List.set_cons_succ, List.set_cons_zero]
            refine wpAny_done (by kernel_rfl) ?_ _
            go_wp2_with fail
            go_meet
            exact ⟨rs, r', Ao, cn, co, rfl, H8.out, HLn.out, oM.out, oO.out⟩
        · skip
          have b8 := M0.out.rb.cell 0
          go_simp
          refine hK _ _ ?_
          clear hK K
          clear b8
          refine take_put (i := 3) (d := 21) (v := ?_) rfl rfl (by kernel_rfl) (by kernel_rfl) (by kernel_rfl) (fun _ _ _ h => h) (Or.inl ⟨by rfl, ?_⟩) ?_
          rotate_left
          · intro w; go_simp; with_reducible rfl
          conv =>
            arg 7
            simp only [List.setIfInBounds_toArray, List.set_cons_succ, List.set_cons_zero]
          refine wpAny_ready (rs := [0]) (by kernel_rfl) (by simp) ?_
          refine AllReady.cons rfl (fun K hK => ?_) (AllReady.nil)
          have b9 := M0.out.rb.cell 0
          go_simp
          refine hK _ _ ?_
          clear hK K
          clear b9
          refine wpAny_ready (rs := [1]) (by kernel_rfl) (by simp) ?_
          refine AllReady.cons rfl (fun K hK => ?_) (AllReady.nil)
          go_simp
          go_wp2_with (go_at_call 84; refine (HN.out _ M0.out.rd).mono ?_; rintro e wq10 ⟨hg10, v10, rfl, rfl, hr10⟩)
          have M10 := Lib.hid (M0.out.call hgl hg10 hr10)
          clear hg10 hr10
          refine wpAny_ready (rs := [4]) (by kernel_rfl) (by simp) ?_
          refine AllReady.cons rfl (fun K hK => ?_) (AllReady.nil)
          go_simp
          go_wp2_with (go_at_call 94; refine (HLo.out _ M10.out.rd).mono ?_; rintro e wq11 ⟨hg11, v11, rfl, oo11, hr11⟩)
          have oM := Lib.hid (M10.out.call hgl hg11 hr11)
          have oO := Lib.hid (oo11.mono (base' := w.heap.size + 2) (by have := M10.out.lt; have := M10.out.hb.lt; omega))
          obtain ⟨Ao, co, rfl, _, _, _⟩ := oo11.shape HLn.out
          clear hg11 hr11 oo11
          refine take_put (i := 5) (d := 5) (v := ?_) rfl rfl (by kernel_rfl) (by kernel_rfl) (by kernel_rfl) (fun _ _ _ h => h) (Or.inl ⟨by rfl, ?_⟩) ?_
          rotate_left
          · intro w; go_simp; with_reducible rfl
          conv =>
            arg 7
            simp only [List.setIfInBounds_toArray, List.set_cons_succ, List.set_cons_zero]
          refine wpAny_done (by kernel_rfl) ?_ _
          go_wp2_with fail
          go_meet
          exact ⟨rs, r', Ao, cn, co, rfl, H8.out, HLn.out, oM.out, oO.out⟩
  case rest =>
    obtain ⟨rs, r', Ao, cn, co, rfl, hpr, hcn, M, hO⟩ := hcut
    have Hpr := Lib.hid hpr
    have Hcn := Lib.hid hcn
    have M3 := Lib.hid M
    have HO := Lib.hid hO
    have hc4 : cn ≤ 4 := by
      have := (prows_codec 4 (by omega)).sound _ _ _ hpr
      have := this.1.1
      omega
    have hrd : RdW wc Ao cn rs := by
      obtain ⟨A', c', e, _, _, r⟩ := hO.shape hcn
      injection e with e1 e2 e3
      rw [e1]
      exact r
    have S5 := rowsRight_any Ao cn co rs wc hrd (by omega)
    clear hpr hcn M hO M0 hmf hrd
    by_cases hok : RowsOk rs
    case neg =>
      rw [decide_eq_false hok] at S5
      have Hst := Lib.hid (getss_no_rows (b := l) (m := 4) (by omega) (by omega) Htx.out (fun rs' h => by rw [Hpr.out] at h; injection h with h; injection h with h _; rw [← h]; exact hok))
      clear hok
      go_wp2_with fail
      refine S5.mono ?_
      rintro e w5 ⟨rfl, g5⟩
      have G5 := Lib.hid (grown_trans M3.out.gr (grown_below g5.below (some g)))
      clear S5 g5
      go_wp2_with fail
      refine (giveUp_any _).mono ?_
      rintro e w6 ⟨rfl, rfl⟩
      go_wp2
      exact ⟨rfl, G5.out, .inr ⟨rfl, Hst.out⟩⟩
    rw [decide_eq_true hok] at S5
    have Hok := Lib.hid hok
    clear hok
    go_wp2_with fail
    refine S5.mono ?_
    rintro e w5 ⟨rfl, g5⟩
    have M4 := Lib.hid (M3.out.rise g5.below)
    have HO5 := Lib.hid (HO.out.below g5.below)
    clear S5 g5 M3 HO
    go_upto_region 6 with (fail)
    obtain ⟨o0, o1, o2, o3, o4, o5, o6, o7⟩ := (show Whole w5 o 26 [.int .i64 H.od, .slice A n c, .int .i64 H.nx, .int .i64 (tget H 0), .int .i64 (tget H 1), .int .i64 (tget H 2), .int .i64 (tget H 3), .slice F m d] from M4.out.hb).eight
    obtain ⟨p0, p1, p2, p3, p4, p5, p6, p7, p8⟩ := (show Whole w5 (w.heap.size + 1) 39 [.int .i64 0, .slice none 0 0, .int .i64 0, .int .i64 0, .int .i64 0, .int .i64 0, .int .i64 0, .slice none 0 0, .slice none 0 0] from M4.out.res).nine
    have pf := M4.out.res.free
    have hlo := M4.out.lt
    have KF := (((((((((M4.out.res.set 0 (.int .i64 H.od)).set 1 (.slice A n c)).set 2 (.int .i64 H.nx)).set 3 (.int .i64 (tget H 0))).set 4 (.int .i64 (tget H 1))).set 5 (.int .i64 (tget H 2))).set 6 (.int .i64 (tget H 3))).set 7 (.slice F m d)).set 8 (.slice Ao cn co))
    have GF := (grown_new (grown_new (grown_new (grown_new (grown_new (grown_new (grown_new (grown_new (grown_new M4.out.gr (Nat.le_succ _) 0 (.int .i64 H.od)) (Nat.le_succ _) 1 (.slice A n c)) (Nat.le_succ _) 2 (.int .i64 H.nx)) (Nat.le_succ _) 3 (.int .i64 (tget H 0))) (Nat.le_succ _) 4 (.int .i64 (tget H 1))) (Nat.le_succ _) 5 (.int .i64 (tget H 2))) (Nat.le_succ _) 6 (.int .i64 (tget H 3))) (Nat.le_succ _) 7 (.slice F m d)) (Nat.le_succ _) 8 (.slice Ao cn co))
    have g9 := grown_set9 w5 (w.heap.size + 1) (.int .i64 H.od) (.slice A n c) (.int .i64 H.nx) (.int .i64 (tget H 0)) (.int .i64 (tget H 1)) (.int .i64 (tget H 2)) (.int .i64 (tget H 3)) (.slice F m d) (.slice Ao cn co)
    have RF := M4.out.rd.apart (M4.out.res.noByte zst_nob) (by omega : g ≠ w.heap.size + 1) g9
    have OF : OwnSt _ w.heap.size ⟨⟨A, n, c, F, m, d⟩, Ao, cn, co⟩ os ⟨H, rs⟩ := (OwnSt.grownI (base := w.heap.size + 2) (r := w.heap.size + 1) (s := ⟨⟨A, n, c, F, m, d⟩, Ao, cn, co⟩) (os := os) (S := ⟨H, rs⟩) ⟨M4.out.own, HO5.out⟩ g9 (by omega)).mono (by omega)
    have HF := Lib.hid (And.intro KF (And.intro GF (And.intro RF OF)))
    clear KF GF g9 RF OF M4 HO5
    go_wp2
    refine bodyPost_ret (results_c1 rfl _ _ _ _ rfl HF.out.1 Tryz.underlying39 (by kernel_rfl)) rfl ?_
    exact ⟨HF.out.2.1, .inl ⟨⟨H, rs⟩, ⟨⟨A, n, c, F, m, d⟩, Ao, cn, co⟩, os, r', t, k, rfl, HF.out.2.2.2, HF.out.2.2.1, Htx.out, HG.out, Hpr.out, Hok.out⟩⟩
end Go.Proofs.YtlnmmklpccppmaaGreatDoor
