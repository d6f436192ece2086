/-
  Package chunk: Of: a text's manifest: contract.
-/
import Derived.Test.YtjncmfjikoepgaaChOf
import Derived.Test.YtjncmfjikoepgaaChMem
namespace Go.Proofs.Ytjncmfjikoepgaa
open Go.RowKit Go.Shelf

attribute [local go_sem] Oper.semAt_some
/-- A manifest of the call's own, and an error's number: what Of tells. -/
def OfP (w : World) (s : ByteArray) (e : Ending) (w' : World) : Prop :=
  ((s.size ≤ 65536 ∧ ∃ v, e = .returned (.tuple #[mval s.size v, .int .i64 0]) ∧ OwnV 3 w' w.heap.size v (ivs (sms s))) ∨
    (¬ s.size ≤ 65536 ∧ e = .returned (.tuple #[mval 0 (.slice none 0 0), .int .i64 100]))) ∧ Below w.heap.size w w'
/-- Two results, of which the first lies in a box of two cells. -/
theorem results_me {fn : Func} {p q : Tmp} (h : fn.results = #[.cell p 24, .tmp q]) (tmps : Array Value) (w : World) (kp : Nat) (hp : tmps.getD p undef = .pointer (some ⟨kp, 0, none⟩)) {a b r : Value} (hq : tmps.getD q undef = r)
    (K : Whole w kp 24 [a, b]) : (results fn tmps).run Try.prog w = .ok (.tuple #[.agg #[a, b], r]) w := by
  have u1 := Try.underlying24
  have z1 := Try.sizeOf24
  have i1 := Try.isAgg24
  have hp' : tmps[p]?.getD undef = .pointer (some ⟨kp, 0, none⟩) := by simpa using hp
  have hq' : tmps[q]?.getD undef = r := by simpa using hq
  have c0 := K.cell 0
  have c1 := K.cell 1
  simp only [List.getElem?_cons_succ, List.getElem?_cons_zero] at c0 c1
  simp only [results, h]
  simp [hp', hq', asAddr, loadVar]
  go_simp
theorem whole_putObj {W : World} {B D : Nat} {t : TypeId} {cs : List Value} (h : Whole W B t cs) (o : Obj) (hne : B ≠ D) : Whole (W.putObj D o) B t cs := by
  unfold Whole World.putObj
  rw [Array.getElem?_setIfInBounds_ne (fun e => hne e.symm)]
  exact h
/-- A box whose second cell holds a slice of the call's own. -/
def MBox (W : World) (n B : Nat) (k : Int) (l : List Int) : Prop := ∃ v, Whole W B 24 [.int .i64 k, v] ∧ OwnV 3 W n v (ivs l)
theorem mbox_own {β : Type} (n B : Nat) (k : Int) (f : β → List Int) : Go.Own (fun s W => MBox W n B k (f s)) := by
  rintro s X Y row ⟨v, hv, hr⟩ hg hrow
  refine ⟨v, hv.keep (hg.block _ hv.lt (fun e' => ?_)), World.ownsRow.kept hr hg ?_⟩
  · obtain ⟨o, ho, hc⟩ := hrow B e'.symm
    unfold Whole at hv
    rw [hv] at ho; cases ho; cases hc
  · rcases hr.2 with ⟨rfl, _⟩ | ⟨g, cap, cur, rfl, _, hgb, _⟩
    · exact .inl rfl
    · refine .inr fun e' => ?_
      obtain ⟨o, ho, hc⟩ := hrow g (by simpa [Value.ownBlock] using e'.symm)
      rw [hgb] at ho; cases ho; cases hc
theorem whole_own {β : Type} (B : Nat) (t : TypeId) (f : β → List Value) : Go.Own (fun s W => Whole W B t (f s)) := fun s X Y row hs hg hrow =>
  Whole.keep hs (hg.block _ (Whole.lt hs) (fun e' => by obtain ⟨o, ho, hc⟩ := hrow B e'.symm; unfold Whole at hs; rw [hs] at ho; cases ho; cases hc))
/-- An append whose run is known, as a step of a region that draws within a round. -/
theorem step_append_runIn {F : Fence} {n : Nat} {P : Program} {ops : Array Oper} {o : Oper} {a : Act} {w w' : World} {K : Act → World → Prop} {Q : Exit → Act → World → Prop} {E : Prop} {v y v' : Value} {t u ty : TypeId}
    (hrun : (Builtin.append_ #[t, u] ty #[v, y]).run P w = .ok v' w') (hgd : o.guard = none) (s x : Operand)
    (ho : o.op = .call { callee := .builtin .append, args := #[s, x], argTypes := #[t, u] }) (hty : o.type = ty) (hs : a.eval s = v) (hx : a.eval x = y)
    (hK : K (a.put o.dst v') w') : if Region.wanted o (yielded ops a.tmps) = true then Oper.wpIn F n P o a w K Q else E := by
  have hw : Region.wanted o (yielded ops a.tmps) = true := by simp [Region.wanted, hgd]
  rw [if_pos hw]
  subst hty
  unfold Oper.wpIn
  refine ⟨by simp [Oper.about, ho, resolve, Target.leads, Sem.run_pure], ?_⟩
  rw [Oper.semAt_plain F _ _ (by rw [ho]; intro c hc'; cases hc')]
  simp [execOp, ho, resolve, invoke, builtin, hs, hx, hrun, Result.andThen]
  exact hK
set_option maxRecDepth 100000 in
set_option maxHeartbeats 4000000 in
theorem of_in (s : ByteArray) (w : World) (hs : s.size ≤ 1000000) :
    CallsIn Fence.wide 3 Try.prog 9 #[.string s] w (OfP w s) := by
  refine callsIn_of_wp_marks Try.func9 rfl trivial ?_ rfl
  simp only [Try.ntmps9, List.size_toArray, List.length_cons, List.length_nil, Nat.reduceAdd, Nat.reduceSub, Array.replicate_succ, Array.replicate_zero, List.push_toArray, List.append_toArray, List.nil_append, List.cons_append]
  by_cases hbig : 65536 < s.size
  · have K0 := Whole.new w #[.int .i64 0, .slice none 0 0] 24
    have B : Below w.heap.size w (w.alloc (.cells #[.int .i64 0, .slice none 0 0] 24)) := (Below.refl _ w).alloc (Nat.le_refl _) _
    gi_wp2
    exact ⟨_, results_me rfl _ _ w.heap.size rfl rfl K0, .inr ⟨by omega, rfl⟩, B⟩
  · have K0 := Whole.new w #[.int .i64 0, .slice none 0 0] 24
    have K1 := Whole.new (w.alloc (.cells #[.int .i64 0, .slice none 0 0] 24)) #[.int .i64 s.size, .slice none 0 0] 24
    have b3 := Go.Boxed.new ((w.alloc (.cells #[.int .i64 0, .slice none 0 0] 24)).alloc (.cells #[.int .i64 s.size, .slice none 0 0] 24)) 9 (.string s)
    simp only [World.size_alloc] at K1 b3
    have B : Below w.heap.size w (((w.alloc (.cells #[.int .i64 0, .slice none 0 0] 24)).alloc (.cells #[.int .i64 s.size, .slice none 0 0] 24)).alloc (.cells #[.string s] 9)) := (((Below.refl _ w).alloc (Nat.le_refl _) _).alloc (by simp) _).alloc (by simp; omega) _
    have c0 := (K0.alloc (.cells #[.int .i64 s.size, .slice none 0 0] 24)).alloc (.cells #[.string s] 9)
    have c1 := K1.alloc (.cells #[.string s] 9)
    gi_wp2_with (refine ⟨trivial, ?_⟩; gi_at_call 23; refine (callsIn_wide.2 (chunks_any s _)).mono ?_; rintro e w' ⟨rfl, rfl⟩)
    generalize hW0 : (((w.alloc (.cells #[.int .i64 0, .slice none 0 0] 24)).alloc (.cells #[.int .i64 s.size, .slice none 0 0] 24)).alloc (.cells #[.string s] 9)) = W0 at *
    have hsz : W0.heap.size = w.heap.size + 1 + 1 + 1 := by rw [← hW0]; simp
    clear hW0 K0 K1
    refine wpIn_rangeFunc_ownG rfl (by decide) (gf := 36) (lb := #[.pointer (some ⟨w.heap.size + 1 + 1, 0, none⟩)]) rfl trivial (enters_of Try.func36 (by kernel_rfl) rfl)
      (chunks_stops s hs _ (w.heap.size + 1 + 1) (by omega) b3.cell) (fun h k => k.trans h) (fun W l o o' hl _ _ _ => by show (W.putObj l o').heap[w.heap.size + 1 + 1]? = _; unfold World.putObj; rw [Array.getElem?_setIfInBounds_ne (by omega)]) (Below.refl _ _) (fun _ => rfl)
      (fun pre W => Below w.heap.size w W ∧ Whole W w.heap.size 24 [.int .i64 0, .slice none 0 0] ∧ MBox W w.heap.size (w.heap.size + 1) s.size (pre.map fun j => (smv (pce s j.1) : Int)) ∧ Go.Boxed W (w.heap.size + 1 + 1) 9 (.string s))
      (fun _ _ _ => False)
      (OwnFrom.and (ownFrom_below (Nat.le_refl _) (by omega)) (OwnFrom.and (Own.from (whole_own _ _ _) _) (OwnFrom.and (Own.from (mbox_own _ _ _ _) _) (Own.from (boxed_own _ _ _) _))))
      (fun _ _ _ _ _ hs _ _ => hs)
      ⟨B, c0, ⟨_, c1, OwnV.nil⟩, b3⟩
      (fun x => { tmps := #[.string s, undef, .pointer (some ⟨w.heap.size, 0, none⟩), .int .i64 0, .pointer (some ⟨w.heap.size + 1, 0, none⟩), undef, .string (pce s x.1), .string s, .int .i64 s.size, .bool (decide (65536 < (s.size : Int))), undef, .string s, .int .i64 s.size, .agg #[.int .i64 s.size, .slice none 0 0], .string s, .func (.func 36) #[] #[.pointer (some ⟨w.heap.size + 1 + 1, 0, none⟩)], .int .i64 (x.1 : Int), .string (pce s x.1), undef, undef, undef, undef, undef, undef, undef, undef], defers := [] }) ?assign ?body ?done ?stop
    case assign =>
      intro l x W K hK
      unfold yv
      gi_wp2
      exact hK
    case body =>
      rintro lp pre x W ⟨hB, h0, ⟨v, h1, ho⟩, h3⟩ hlt
      have hmx : Try.prog.follows .mixedOrders = true := by kernel_rfl
      have hxs : (pce s x.1).size ≤ 1000000 := by
        rw [pce_size x.2]
        have := pln_le s.size x.1
        omega
      obtain ⟨L, hL⟩ : ∃ L : List Int, L = pre.map fun j => (smv (pce s j.1) : Int) := ⟨_, rfl⟩
      have hLl : L.length ≤ 900 := by
        rw [hL, List.length_map]
        have := cnt_le (n := s.size) (by omega)
        omega
      obtain ⟨t, ht⟩ : ∃ t, t = pce s x.1 := ⟨_, rfl⟩
      obtain ⟨n, hn⟩ : ∃ n, n = smv t := ⟨_, rfl⟩
      have hLx : L ++ [(n : Int)] = (pre ++ [x]).map fun j => (smv (pce s j.1) : Int) := by rw [hL, hn, ht]; simp
      rw [← ht] at hxs ⊢
      rw [← hL] at ho
      have HC := fun V => sumStr_any t V hxs
      rw [← hn] at HC
      unfold GivesN at HC
      have e1 := h1.cell 1
      simp only [List.getElem?_cons_succ, List.getElem?_cons_zero] at e1
      have e1' : W.drew.cell? ⟨w.heap.size + 1, 1, none⟩ = some v := e1
      -- what an append leaves, behind any call that only lays blocks
      have HM : ∀ W2 : World, Below W.drew.heap.size W.drew W2 → ∃ g3 c3 W3, W2.cell? ⟨w.heap.size + 1, 1, none⟩ = some v ∧ (Builtin.append_ #[22, 22] 22 #[v, .slice (some ⟨W2.heap.size, 0, none⟩) 1 1]).run Try.prog (W2.alloc (.cells #[.int .i64 (n : Int)] 3)) = .ok (.slice (some ⟨g3, 0, none⟩) (L.length + 1) c3) W3 ∧
          W3.frozen? ⟨w.heap.size + 1, 1, none⟩ = false ∧ (∃ u, W3.cell? ⟨w.heap.size + 1, 1, none⟩ = some u) ∧ Hid (KeepsOthers W (W3.setCell ⟨w.heap.size + 1, 1, none⟩ (.slice (some ⟨g3, 0, none⟩) (L.length + 1) c3)) ∧ KpS (w.heap.size + 1 + 1) W (W3.setCell ⟨w.heap.size + 1, 1, none⟩ (.slice (some ⟨g3, 0, none⟩) (L.length + 1) c3)) ∧ Below w.heap.size w (W3.setCell ⟨w.heap.size + 1, 1, none⟩ (.slice (some ⟨g3, 0, none⟩) (L.length + 1) c3)) ∧
            Whole (W3.setCell ⟨w.heap.size + 1, 1, none⟩ (.slice (some ⟨g3, 0, none⟩) (L.length + 1) c3)) w.heap.size 24 [.int .i64 0, .slice none 0 0] ∧ MBox (W3.setCell ⟨w.heap.size + 1, 1, none⟩ (.slice (some ⟨g3, 0, none⟩) (L.length + 1) c3)) w.heap.size (w.heap.size + 1) s.size (L ++ [(n : Int)]) ∧ Go.Boxed (W3.setCell ⟨w.heap.size + 1, 1, none⟩ (.slice (some ⟨g3, 0, none⟩) (L.length + 1) c3)) (w.heap.size + 1 + 1) 9 (.string s)) := by
        intro W2 b2
        have b2' : Below W.heap.size W W2 := (Below.refl _ _).drew.trans b2
        have k1 := h1.below b2'
        have o2 : OwnV 3 W2 w.heap.size v (ivs L) := ho.below b2'
        have hqs : w.heap.size ≤ W2.heap.size := by have := h1.lt; have := b2'.size; omega
        obtain ⟨v3, W3, hrun, o3, g3', hob⟩ := run_app_cell (P := Try.prog) (w := W2) w.heap.size 22 22 3 Try.underlying22 Try.infoIntL rfl (by decide) (by decide) v (ivs L) o2 (.int .i64 (n : Int)) rfl (by rw [ivs_length]; omega) hqs
        have hiv : ivs L ++ [.int .i64 (n : Int)] = ivs (L ++ [(n : Int)]) := by rw [ivs_append]; rfl
        rw [hiv] at o3
        have k3 := k1.keep (g3'.block _ k1.lt (fun e => OwnV.apart o2 k1 (by decide) e.symm))
        have k0 := (h0.below b2').keep (g3'.block _ (h0.below b2').lt (fun e => OwnV.apart o2 (h0.below b2') (by decide) e.symm))
        have s2 : Go.Boxed W2 (w.heap.size + 1 + 1) 9 (.string s) := (b2'.block _ h3.lt).trans h3
        have s3 : Go.Boxed W3 (w.heap.size + 1 + 1) 9 (.string s) := s2.kept g3' (Go.Boxed.not_row s2 (by decide) o2)
        have hne3 := OwnV.apart o3 k3 (by decide)
        obtain ⟨g3, c3, hv3, _⟩ := o3.formV (n := L.length + 1) (by rw [ivs_length, List.length_append]; rfl) (by omega)
        subst hv3
        have f1 := k3.free 1
        have f2 := k3.cell 1
        simp only [List.getElem?_cons_succ, List.getElem?_cons_zero] at f2
        have ks := k3.set 1 (.slice (some ⟨g3, 0, none⟩) (L.length + 1) c3)
        have gs := grown_set W3 (w.heap.size + 1) 1 (.slice (some ⟨g3, 0, none⟩) (L.length + 1) c3)
        have hB3 : Below w.heap.size w W3 := (hB.trans (b2'.mono (by have := h1.lt; omega))).grown g3' hqs fun k hk => (o2.lt k hk).1
        refine ⟨g3, c3, W3, ?_, hrun, f1, ⟨_, f2⟩, Lib.hid ⟨?_, ?_, ?_, ?_, ⟨_, ks, o3.grown gs hne3⟩, ?_⟩⟩
        · have := k1.cell 1
          simpa using this
        · refine (KeepsOthers.of_grownBy (grown_below b2' none) (by rintro _ _ ⟨⟩)).trans ((KeepsOthers.of_grownBy g3' fun j o ej hj => ?_).trans (KeepsOthers.setCell _ _ _))
          rcases o2.2 with ⟨rfl, _⟩ | ⟨g, cap, cur, rfl, _, hgb, _⟩
          · simp [Value.ownBlock] at ej
          · obtain rfl : g = j := by simpa [Value.ownBlock] using ej
            rw [hgb] at hj; cases hj; rfl
        · exact (gs.block _ s3.lt (by simp)).trans (s3.trans h3.symm)
        · exact below_grown hB3 gs (by have := g3'.size; omega) (by omega)
        · exact k0.grown gs (by omega)
        · exact s3.kept gs (by simp)
      have HX := Lib.hid hLx
      clear ht hn hL hLx ho h1 h0 h3 hB hxs
      gi_wp2
      refine wpIn_region_any hmx ?_
      change wpAnyIn _ _ _ _ _ _ _ _ _ (World.drew _)
      refine wpAnyIn_ready (rs := [0, 2]) (by kernel_rfl) (by simp) (AllReadyIn.cons rfl (fun K hK => ?_) (AllReadyIn.cons rfl (fun K hK => ?_) AllReadyIn.nil))
      · skip
        go_simp
        refine hK _ _ ?_
        clear hK K
        refine wpAnyIn_ready (rs := [1, 2]) (by kernel_rfl) (by simp) (AllReadyIn.cons rfl (fun K hK => ?_) (AllReadyIn.cons rfl (fun K hK => ?_) AllReadyIn.nil))
        · skip
          go_simp
          refine hK _ _ ?_
          clear hK K
          refine wpAnyIn_ready (rs := [2]) (by kernel_rfl) (by simp) (AllReadyIn.cons rfl (fun K hK => ?_) AllReadyIn.nil)
          go_simp
          refine hK _ _ ?_
          clear hK K
          refine wpAnyIn_ready (rs := [3]) (by kernel_rfl) (by simp) (AllReadyIn.cons rfl (fun K hK => ?_) AllReadyIn.nil)
          go_simp
          refine ⟨trivial, ?_⟩
          gi_at_call 24
          refine (CallsIn.inRound lp (callsIn_wide.2 (HC _))).mono ?_
          rintro e W2 ⟨rfl, b2⟩
          obtain ⟨g3, c3, W3, hc1, hap, f1, ⟨u, f2⟩, HR⟩ := HM W2 b2
          clear HM
          have hc2 : (W2.alloc (.cells #[.int .i64 (n : Int)] 3)).cell? ⟨w.heap.size + 1, 1, none⟩ = some v := (World.cell?_alloc_lt W2 _ _ (World.block_lt_of_cell? W2 _ hc1)).trans hc1
          dsimp only
          refine hK _ _ ?_
          clear hK K
          refine wpAnyIn_ready (rs := [4]) (by kernel_rfl) (by simp) (AllReadyIn.cons rfl (fun K hK => ?_) AllReadyIn.nil)
          go_simp
          refine hK _ _ ?_
          clear hK K
          refine wpAnyIn_ready (rs := [5]) (by kernel_rfl) (by simp) (AllReadyIn.cons rfl (fun K hK => ?_) AllReadyIn.nil)
          refine step_append_runIn hap rfl (.tmp 19) (.tmp 22) rfl rfl rfl rfl ?_
          refine hK _ _ ?_
          clear hK K hap hc1 hc2
          refine wpAnyIn_ready (rs := [6]) (by kernel_rfl) (by simp) (AllReadyIn.cons rfl (fun K hK => ?_) AllReadyIn.nil)
          go_simp
          refine hK _ _ ?_
          clear hK K
          refine wpAnyIn_ready (rs := [7]) (by kernel_rfl) (by simp) (AllReadyIn.cons rfl (fun K hK => ?_) AllReadyIn.nil)
          go_simp
          refine hK _ _ ?_
          clear hK K
          refine wpAnyIn_done (by kernel_rfl) ?_ _
          obtain ⟨z1, z2, z3, z4, z5, z6⟩ := HR.out
          rw [HX.out] at z5
          exact ⟨z1.from _, z2, z3, z4, z5, z6⟩
        · skip
          go_simp
          refine hK _ _ ?_
          clear hK K
          refine wpAnyIn_ready (rs := [1, 3]) (by kernel_rfl) (by simp) (AllReadyIn.cons rfl (fun K hK => ?_) (AllReadyIn.cons rfl (fun K hK => ?_) AllReadyIn.nil))
          · skip
            go_simp
            refine hK _ _ ?_
            clear hK K
            refine wpAnyIn_ready (rs := [3]) (by kernel_rfl) (by simp) (AllReadyIn.cons rfl (fun K hK => ?_) AllReadyIn.nil)
            go_simp
            refine ⟨trivial, ?_⟩
            gi_at_call 24
            refine (CallsIn.inRound lp (callsIn_wide.2 (HC _))).mono ?_
            rintro e W2 ⟨rfl, b2⟩
            obtain ⟨g3, c3, W3, hc1, hap, f1, ⟨u, f2⟩, HR⟩ := HM W2 b2
            clear HM
            have hc2 : (W2.alloc (.cells #[.int .i64 (n : Int)] 3)).cell? ⟨w.heap.size + 1, 1, none⟩ = some v := (World.cell?_alloc_lt W2 _ _ (World.block_lt_of_cell? W2 _ hc1)).trans hc1
            dsimp only
            refine hK _ _ ?_
            clear hK K
            refine wpAnyIn_ready (rs := [4]) (by kernel_rfl) (by simp) (AllReadyIn.cons rfl (fun K hK => ?_) AllReadyIn.nil)
            go_simp
            refine hK _ _ ?_
            clear hK K
            refine wpAnyIn_ready (rs := [5]) (by kernel_rfl) (by simp) (AllReadyIn.cons rfl (fun K hK => ?_) AllReadyIn.nil)
            refine step_append_runIn hap rfl (.tmp 19) (.tmp 22) rfl rfl rfl rfl ?_
            refine hK _ _ ?_
            clear hK K hap hc1 hc2
            refine wpAnyIn_ready (rs := [6]) (by kernel_rfl) (by simp) (AllReadyIn.cons rfl (fun K hK => ?_) AllReadyIn.nil)
            go_simp
            refine hK _ _ ?_
            clear hK K
            refine wpAnyIn_ready (rs := [7]) (by kernel_rfl) (by simp) (AllReadyIn.cons rfl (fun K hK => ?_) AllReadyIn.nil)
            go_simp
            refine hK _ _ ?_
            clear hK K
            refine wpAnyIn_done (by kernel_rfl) ?_ _
            obtain ⟨z1, z2, z3, z4, z5, z6⟩ := HR.out
            rw [HX.out] at z5
            exact ⟨z1.from _, z2, z3, z4, z5, z6⟩
          · skip
            go_simp
            refine ⟨trivial, ?_⟩
            gi_at_call 24
            refine (CallsIn.inRound lp (callsIn_wide.2 (HC _))).mono ?_
            rintro e W2 ⟨rfl, b2⟩
            obtain ⟨g3, c3, W3, hc1, hap, f1, ⟨u, f2⟩, HR⟩ := HM W2 b2
            clear HM
            have hc2 : (W2.alloc (.cells #[.int .i64 (n : Int)] 3)).cell? ⟨w.heap.size + 1, 1, none⟩ = some v := (World.cell?_alloc_lt W2 _ _ (World.block_lt_of_cell? W2 _ hc1)).trans hc1
            dsimp only
            refine hK _ _ ?_
            clear hK K
            refine wpAnyIn_ready (rs := [1, 4]) (by kernel_rfl) (by simp) (AllReadyIn.cons rfl (fun K hK => ?_) (AllReadyIn.cons rfl (fun K hK => ?_) AllReadyIn.nil))
            · skip
              go_simp
              refine hK _ _ ?_
              clear hK K
              refine wpAnyIn_ready (rs := [4]) (by kernel_rfl) (by simp) (AllReadyIn.cons rfl (fun K hK => ?_) AllReadyIn.nil)
              go_simp
              refine hK _ _ ?_
              clear hK K
              refine wpAnyIn_ready (rs := [5]) (by kernel_rfl) (by simp) (AllReadyIn.cons rfl (fun K hK => ?_) AllReadyIn.nil)
              refine step_append_runIn hap rfl (.tmp 19) (.tmp 22) rfl rfl rfl rfl ?_
              refine hK _ _ ?_
              clear hK K hap hc1 hc2
              refine wpAnyIn_ready (rs := [6]) (by kernel_rfl) (by simp) (AllReadyIn.cons rfl (fun K hK => ?_) AllReadyIn.nil)
              go_simp
              refine hK _ _ ?_
              clear hK K
              refine wpAnyIn_ready (rs := [7]) (by kernel_rfl) (by simp) (AllReadyIn.cons rfl (fun K hK => ?_) AllReadyIn.nil)
              go_simp
              refine hK _ _ ?_
              clear hK K
              refine wpAnyIn_done (by kernel_rfl) ?_ _
              obtain ⟨z1, z2, z3, z4, z5, z6⟩ := HR.out
              rw [HX.out] at z5
              exact ⟨z1.from _, z2, z3, z4, z5, z6⟩
            · skip
              go_simp
              refine hK _ _ ?_
              clear hK K
              refine wpAnyIn_ready (rs := [1]) (by kernel_rfl) (by simp) (AllReadyIn.cons rfl (fun K hK => ?_) AllReadyIn.nil)
              go_simp
              refine hK _ _ ?_
              clear hK K
              refine wpAnyIn_ready (rs := [5]) (by kernel_rfl) (by simp) (AllReadyIn.cons rfl (fun K hK => ?_) AllReadyIn.nil)
              refine step_append_runIn hap rfl (.tmp 19) (.tmp 22) rfl rfl rfl rfl ?_
              refine hK _ _ ?_
              clear hK K hap hc1 hc2
              refine wpAnyIn_ready (rs := [6]) (by kernel_rfl) (by simp) (AllReadyIn.cons rfl (fun K hK => ?_) AllReadyIn.nil)
              go_simp
              refine hK _ _ ?_
              clear hK K
              refine wpAnyIn_ready (rs := [7]) (by kernel_rfl) (by simp) (AllReadyIn.cons rfl (fun K hK => ?_) AllReadyIn.nil)
              go_simp
              refine hK _ _ ?_
              clear hK K
              refine wpAnyIn_done (by kernel_rfl) ?_ _
              obtain ⟨z1, z2, z3, z4, z5, z6⟩ := HR.out
              rw [HX.out] at z5
              exact ⟨z1.from _, z2, z3, z4, z5, z6⟩
      · skip
        go_simp
        refine hK _ _ ?_
        clear hK K
        refine wpAnyIn_ready (rs := [0, 3]) (by kernel_rfl) (by simp) (AllReadyIn.cons rfl (fun K hK => ?_) (AllReadyIn.cons rfl (fun K hK => ?_) AllReadyIn.nil))
        · skip
          go_simp
          refine hK _ _ ?_
          clear hK K
          refine wpAnyIn_ready (rs := [1, 3]) (by kernel_rfl) (by simp) (AllReadyIn.cons rfl (fun K hK => ?_) (AllReadyIn.cons rfl (fun K hK => ?_) AllReadyIn.nil))
          · skip
            go_simp
            refine hK _ _ ?_
            clear hK K
            refine wpAnyIn_ready (rs := [3]) (by kernel_rfl) (by simp) (AllReadyIn.cons rfl (fun K hK => ?_) AllReadyIn.nil)
            go_simp
            refine ⟨trivial, ?_⟩
            gi_at_call 24
            refine (CallsIn.inRound lp (callsIn_wide.2 (HC _))).mono ?_
            rintro e W2 ⟨rfl, b2⟩
            obtain ⟨g3, c3, W3, hc1, hap, f1, ⟨u, f2⟩, HR⟩ := HM W2 b2
            clear HM
            have hc2 : (W2.alloc (.cells #[.int .i64 (n : Int)] 3)).cell? ⟨w.heap.size + 1, 1, none⟩ = some v := (World.cell?_alloc_lt W2 _ _ (World.block_lt_of_cell? W2 _ hc1)).trans hc1
            dsimp only
            refine hK _ _ ?_
            clear hK K
            refine wpAnyIn_ready (rs := [4]) (by kernel_rfl) (by simp) (AllReadyIn.cons rfl (fun K hK => ?_) AllReadyIn.nil)
            go_simp
            refine hK _ _ ?_
            clear hK K
            refine wpAnyIn_ready (rs := [5]) (by kernel_rfl) (by simp) (AllReadyIn.cons rfl (fun K hK => ?_) AllReadyIn.nil)
            refine step_append_runIn hap rfl (.tmp 19) (.tmp 22) rfl rfl rfl rfl ?_
            refine hK _ _ ?_
            clear hK K hap hc1 hc2
            refine wpAnyIn_ready (rs := [6]) (by kernel_rfl) (by simp) (AllReadyIn.cons rfl (fun K hK => ?_) AllReadyIn.nil)
            go_simp
            refine hK _ _ ?_
            clear hK K
            refine wpAnyIn_ready (rs := [7]) (by kernel_rfl) (by simp) (AllReadyIn.cons rfl (fun K hK => ?_) AllReadyIn.nil)
            go_simp
            refine hK _ _ ?_
            clear hK K
            refine wpAnyIn_done (by kernel_rfl) ?_ _
            obtain ⟨z1, z2, z3, z4, z5, z6⟩ := HR.out
            rw [HX.out] at z5
            exact ⟨z1.from _, z2, z3, z4, z5, z6⟩
          · skip
            go_simp
            refine ⟨trivial, ?_⟩
            gi_at_call 24
            refine (CallsIn.inRound lp (callsIn_wide.2 (HC _))).mono ?_
            rintro e W2 ⟨rfl, b2⟩
            obtain ⟨g3, c3, W3, hc1, hap, f1, ⟨u, f2⟩, HR⟩ := HM W2 b2
            clear HM
            have hc2 : (W2.alloc (.cells #[.int .i64 (n : Int)] 3)).cell? ⟨w.heap.size + 1, 1, none⟩ = some v := (World.cell?_alloc_lt W2 _ _ (World.block_lt_of_cell? W2 _ hc1)).trans hc1
            dsimp only
            refine hK _ _ ?_
            clear hK K
            refine wpAnyIn_ready (rs := [1, 4]) (by kernel_rfl) (by simp) (AllReadyIn.cons rfl (fun K hK => ?_) (AllReadyIn.cons rfl (fun K hK => ?_) AllReadyIn.nil))
            · skip
              go_simp
              refine hK _ _ ?_
              clear hK K
              refine wpAnyIn_ready (rs := [4]) (by kernel_rfl) (by simp) (AllReadyIn.cons rfl (fun K hK => ?_) AllReadyIn.nil)
              go_simp
              refine hK _ _ ?_
              clear hK K
              refine wpAnyIn_ready (rs := [5]) (by kernel_rfl) (by simp) (AllReadyIn.cons rfl (fun K hK => ?_) AllReadyIn.nil)
              refine step_append_runIn hap rfl (.tmp 19) (.tmp 22) rfl rfl rfl rfl ?_
              refine hK _ _ ?_
              clear hK K hap hc1 hc2
              refine wpAnyIn_ready (rs := [6]) (by kernel_rfl) (by simp) (AllReadyIn.cons rfl (fun K hK => ?_) AllReadyIn.nil)
              go_simp
              refine hK _ _ ?_
              clear hK K
              refine wpAnyIn_ready (rs := [7]) (by kernel_rfl) (by simp) (AllReadyIn.cons rfl (fun K hK => ?_) AllReadyIn.nil)
              go_simp
              refine hK _ _ ?_
              clear hK K
              refine wpAnyIn_done (by kernel_rfl) ?_ _
              obtain ⟨z1, z2, z3, z4, z5, z6⟩ := HR.out
              rw [HX.out] at z5
              exact ⟨z1.from _, z2, z3, z4, z5, z6⟩
            · skip
              go_simp
              refine hK _ _ ?_
              clear hK K
              refine wpAnyIn_ready (rs := [1]) (by kernel_rfl) (by simp) (AllReadyIn.cons rfl (fun K hK => ?_) AllReadyIn.nil)
              go_simp
              refine hK _ _ ?_
              clear hK K
              refine wpAnyIn_ready (rs := [5]) (by kernel_rfl) (by simp) (AllReadyIn.cons rfl (fun K hK => ?_) AllReadyIn.nil)
              refine step_append_runIn hap rfl (.tmp 19) (.tmp 22) rfl rfl rfl rfl ?_
              refine hK _ _ ?_
              clear hK K hap hc1 hc2
              refine wpAnyIn_ready (rs := [6]) (by kernel_rfl) (by simp) (AllReadyIn.cons rfl (fun K hK => ?_) AllReadyIn.nil)
              go_simp
              refine hK _ _ ?_
              clear hK K
              refine wpAnyIn_ready (rs := [7]) (by kernel_rfl) (by simp) (AllReadyIn.cons rfl (fun K hK => ?_) AllReadyIn.nil)
              go_simp
              refine hK _ _ ?_
              clear hK K
              refine wpAnyIn_done (by kernel_rfl) ?_ _
              obtain ⟨z1, z2, z3, z4, z5, z6⟩ := HR.out
              rw [HX.out] at z5
              exact ⟨z1.from _, z2, z3, z4, z5, z6⟩
        · skip
          go_simp
          refine ⟨trivial, ?_⟩
          gi_at_call 24
          refine (CallsIn.inRound lp (callsIn_wide.2 (HC _))).mono ?_
          rintro e W2 ⟨rfl, b2⟩
          obtain ⟨g3, c3, W3, hc1, hap, f1, ⟨u, f2⟩, HR⟩ := HM W2 b2
          clear HM
          have hc2 : (W2.alloc (.cells #[.int .i64 (n : Int)] 3)).cell? ⟨w.heap.size + 1, 1, none⟩ = some v := (World.cell?_alloc_lt W2 _ _ (World.block_lt_of_cell? W2 _ hc1)).trans hc1
          dsimp only
          refine hK _ _ ?_
          clear hK K
          refine wpAnyIn_ready (rs := [0, 4]) (by kernel_rfl) (by simp) (AllReadyIn.cons rfl (fun K hK => ?_) (AllReadyIn.cons rfl (fun K hK => ?_) AllReadyIn.nil))
          · skip
            go_simp
            refine hK _ _ ?_
            clear hK K
            refine wpAnyIn_ready (rs := [1, 4]) (by kernel_rfl) (by simp) (AllReadyIn.cons rfl (fun K hK => ?_) (AllReadyIn.cons rfl (fun K hK => ?_) AllReadyIn.nil))
            · skip
              go_simp
              refine hK _ _ ?_
              clear hK K
              refine wpAnyIn_ready (rs := [4]) (by kernel_rfl) (by simp) (AllReadyIn.cons rfl (fun K hK => ?_) AllReadyIn.nil)
              go_simp
              refine hK _ _ ?_
              clear hK K
              refine wpAnyIn_ready (rs := [5]) (by kernel_rfl) (by simp) (AllReadyIn.cons rfl (fun K hK => ?_) AllReadyIn.nil)
              refine step_append_runIn hap rfl (.tmp 19) (.tmp 22) rfl rfl rfl rfl ?_
              refine hK _ _ ?_
              clear hK K hap hc1 hc2
              refine wpAnyIn_ready (rs := [6]) (by kernel_rfl) (by simp) (AllReadyIn.cons rfl (fun K hK => ?_) AllReadyIn.nil)
              go_simp
              refine hK _ _ ?_
              clear hK K
              refine wpAnyIn_ready (rs := [7]) (by kernel_rfl) (by simp) (AllReadyIn.cons rfl (fun K hK => ?_) AllReadyIn.nil)
              go_simp
              refine hK _ _ ?_
              clear hK K
              refine wpAnyIn_done (by kernel_rfl) ?_ _
              obtain ⟨z1, z2, z3, z4, z5, z6⟩ := HR.out
              rw [HX.out] at z5
              exact ⟨z1.from _, z2, z3, z4, z5, z6⟩
            · skip
              go_simp
              refine hK _ _ ?_
              clear hK K
              refine wpAnyIn_ready (rs := [1]) (by kernel_rfl) (by simp) (AllReadyIn.cons rfl (fun K hK => ?_) AllReadyIn.nil)
              go_simp
              refine hK _ _ ?_
              clear hK K
              refine wpAnyIn_ready (rs := [5]) (by kernel_rfl) (by simp) (AllReadyIn.cons rfl (fun K hK => ?_) AllReadyIn.nil)
              refine step_append_runIn hap rfl (.tmp 19) (.tmp 22) rfl rfl rfl rfl ?_
              refine hK _ _ ?_
              clear hK K hap hc1 hc2
              refine wpAnyIn_ready (rs := [6]) (by kernel_rfl) (by simp) (AllReadyIn.cons rfl (fun K hK => ?_) AllReadyIn.nil)
              go_simp
              refine hK _ _ ?_
              clear hK K
              refine wpAnyIn_ready (rs := [7]) (by kernel_rfl) (by simp) (AllReadyIn.cons rfl (fun K hK => ?_) AllReadyIn.nil)
              go_simp
              refine hK _ _ ?_
              clear hK K
              refine wpAnyIn_done (by kernel_rfl) ?_ _
              obtain ⟨z1, z2, z3, z4, z5, z6⟩ := HR.out
              rw [HX.out] at z5
              exact ⟨z1.from _, z2, z3, z4, z5, z6⟩
          · skip
            go_simp
            refine hK _ _ ?_
            clear hK K
            refine wpAnyIn_ready (rs := [0]) (by kernel_rfl) (by simp) (AllReadyIn.cons rfl (fun K hK => ?_) AllReadyIn.nil)
            go_simp
            refine hK _ _ ?_
            clear hK K
            refine wpAnyIn_ready (rs := [1]) (by kernel_rfl) (by simp) (AllReadyIn.cons rfl (fun K hK => ?_) AllReadyIn.nil)
            go_simp
            refine hK _ _ ?_
            clear hK K
            refine wpAnyIn_ready (rs := [5]) (by kernel_rfl) (by simp) (AllReadyIn.cons rfl (fun K hK => ?_) AllReadyIn.nil)
            refine step_append_runIn hap rfl (.tmp 19) (.tmp 22) rfl rfl rfl rfl ?_
            refine hK _ _ ?_
            clear hK K hap hc1 hc2
            refine wpAnyIn_ready (rs := [6]) (by kernel_rfl) (by simp) (AllReadyIn.cons rfl (fun K hK => ?_) AllReadyIn.nil)
            go_simp
            refine hK _ _ ?_
            clear hK K
            refine wpAnyIn_ready (rs := [7]) (by kernel_rfl) (by simp) (AllReadyIn.cons rfl (fun K hK => ?_) AllReadyIn.nil)
            go_simp
            refine hK _ _ ?_
            clear hK K
            refine wpAnyIn_done (by kernel_rfl) ?_ _
            obtain ⟨z1, z2, z3, z4, z5, z6⟩ := HR.out
            rw [HX.out] at z5
            exact ⟨z1.from _, z2, z3, z4, z5, z6⟩
    case done =>
      rintro D ys W hD rfl ⟨hB, h0, ⟨v, h1, ho⟩, h3⟩ hK
      have hL : ((List.finRange (cnt s.size)).map fun j => (smv (pce s j.1) : Int)) = sms s := by
        unfold sms smsTo
        apply List.ext_getElem
        · simp
        · intro i h1 h2
          simp
      rw [hL] at ho
      have f0 := h1.cell 0
      have f1 := h1.cell 1
      have g0 := h0.cell 0
      have g1 := h0.cell 1
      have g2 := h0.free 0
      have g3 := h0.free 1
      simp only [List.getElem?_cons_succ, List.getElem?_cons_zero] at f0 f1 g0 g1
      obtain ⟨A, c, hv, hc, hm, hr⟩ := OwnV.shape ho (n := (cnt s.size)) (by rw [ivs_length, sms_length])
      subst hv
      have n1 : w.heap.size ≠ w.heap.size + 1 := by omega
      have K1 := (h0.set 0 (.int .i64 s.size)).set 1 (.slice A (cnt s.size) c)
      have gs := grown_trans (grown_set W w.heap.size 0 (.int .i64 s.size)) (grown_set _ w.heap.size 1 (.slice A (cnt s.size) c))
      have o1 := OwnV.grown ho gs (OwnV.apart ho h0 (by decide))
      have hK' := ((KeepsOthers.setCell W ⟨w.heap.size, 0, none⟩ (.int .i64 s.size)).trans (KeepsOthers.setCell _ ⟨w.heap.size, 1, none⟩ (.slice A (cnt s.size) c))).same D _ hK rfl
      have hB' := below_grown hB gs hB.size (Nat.le_refl _)
      have HH := Lib.hid (And.intro K1 (And.intro o1 (And.intro hK' hB')))
      clear K1 o1 hK' hB' gs hr hL ho hc hm
      gi_wp2
      obtain ⟨K1, o1, hK', hB'⟩ := HH.out
      refine ⟨by simp, .inl ⟨_, _, rfl, run_takeDeferred hK', ?_⟩⟩
      exact ⟨_, results_me rfl _ _ w.heap.size rfl rfl (whole_putObj K1 _ (by omega)), .inl ⟨by omega, _, rfl, ownsRow_putObj o1 _ hK' rfl⟩, below_none hB' (Nat.le_refl _) (by omega) hK' rfl rfl _⟩
    case stop =>
      rintro D c pre W _ _ h _
      exact h.elim
theorem of_any (s : ByteArray) (w : World) (hs : s.size ≤ 1000000) : Calls Try.prog 9 #[.string s] w (OfP w s) := callsIn_wide.1 (of_in s w hs)
end Go.Proofs.Ytjncmfjikoepgaa
