/-
  The free blocks between two places: fill.
  The free blocks beside objects: freeBeside.
  The free blocks beside objects: the contract of freeBeside.
-/
import Derived.Test.YtlnmmklpccppmaaGreatDoorTg35
import Derived.Test.YtlnmmklpccppmaaGreatDoorTg20
import Derived.Test.YtlnmmklpccppmaaGreatDoorTg38
namespace Go.Proofs.YtlnmmklpccppmaaGreatDoor
open Go.RowKit Go.Sort
theorem sz_mono {o r : Int} (hr : 0 ≤ r) (h : sz o ≤ sz r) : o ≤ r := by
  unfold sz at h
  have h1 : ((2 ^ o.toNat : Nat) : Int) ≤ ((2 ^ r.toNat : Nat) : Int) := by
    rw [Int.natCast_pow, Int.natCast_pow]; exact h
  have h2 := (Nat.pow_le_pow_iff_right (a := 2) (by omega)).1 (Int.ofNat_le.1 h1)
  omega
theorem sz_dvd {o p : Int} (h : o ≤ p) : sz o ∣ sz p := by
  unfold sz
  have := Int.natCast_dvd_natCast.2 (Nat.pow_dvd_pow 2 (show o.toNat ≤ p.toNat by omega))
  rwa [Int.natCast_pow, Int.natCast_pow] at this
/-- What filling has come to: so much of what is free, wherever it is known. -/
def FillInv (G : List Blk) (a b : Int) (G' : List Blk) (p : Int) : Prop :=
  ∀ (r : Int) (F : List Blk) (k : Nat), Right r F → G = F.take k → Part F a k → a ≤ b → b ≤ sz r → (∀ x, a ≤ x → x < b → Cov F x) → ¬ Cov F b → ∃ k', G' = F.take k' ∧ Part F p k' ∧ p ≤ b
theorem FillInv.start (G : List Blk) (a b : Int) : FillInv G a b G a := fun _ _ k _ hG hp hab _ _ _ => ⟨k, hG, hp, hab⟩
theorem FillInv.step {G G' : List Blk} {a b p o : Int} (h : FillInv G a b G' p) (hap : a ≤ p) (hpb : p < b) (h0 : 0 ≤ p) (ho : 0 ≤ o) (hm : p % sz o = 0) (hle : p + sz o ≤ b) (hn : ¬ (p % (2 * sz o) = 0 ∧ p + 2 * sz o ≤ b)) : FillInv G a b (G' ++ [(p, o)]) (p + sz o) := by
  intro r F k hR hG hp hab hb hc hnc
  obtain ⟨k', hG', hP, _⟩ := h r F k hR hG hp hab hb hc hnc
  obtain ⟨B, hB, hB1⟩ := hP.at_ hR.rise (hc p hap hpb)
  have hBm := List.mem_of_getElem? hB
  have hM := hR.may hBm
  have hzo := sz_pos o
  have hr := hR.1
  have h1 : o ≤ B.2 := hR.greatest hBm ho (sz_mono (by omega) (by omega)) (by rw [hB1]; exact hm) fun x hx1 hx2 => hc x (by omega) (by omega)
  have h2 : B.2 ≤ o := by
    rcases Int.lt_or_le o B.2 with q | q
    · exfalso
      have hs := sz_succ ho
      have hd : 2 * sz o ∣ sz B.2 := by rw [← hs]; exact sz_dvd (by omega)
      refine hn ⟨?_, ?_⟩
      · rw [← hB1]
        exact Int.emod_eq_zero_of_dvd (Int.dvd_trans hd (Int.dvd_of_emod_eq_zero hM.2.2.2.2))
      · have hzB := sz_pos B.2
        have h3 : 2 * sz o ≤ sz B.2 := Int.le_of_dvd hzB hd
        rcases Int.lt_or_le b (B.1 + sz B.2) with q2 | q2
        · exact absurd ⟨B, hBm, by unfold InB; omega⟩ hnc
        · omega
    · exact q
  have hBe : B = (p, o) := Prod.ext hB1 (by simp only; omega)
  obtain ⟨hS, hT⟩ := hP.step hR hB hB1
  rw [hBe] at hS hT
  exact ⟨k' + 1, by rw [hG', hT], hS, hle⟩
theorem FillInv.done {G G' : List Blk} {a b p : Int} (h : FillInv G a b G' p) (hp : b ≤ p) {r : Int} {F : List Blk} {k : Nat} (hR : Right r F) (hG : G = F.take k) (hP : Part F a k) (hab : a ≤ b) (hb : b ≤ sz r) (hc : ∀ x, a ≤ x → x < b → Cov F x) (hn : ¬ Cov F b) : ∃ k', G' = F.take k' ∧ Part F b k' := by
  obtain ⟨k', h1, h2, h3⟩ := h r F k hR hG hP hab hb hc hn
  obtain rfl : p = b := by omega
  exact ⟨k', h1, h2⟩
theorem AppB.refl {U : TypeId} {w : World} {base : Nat} {v : Value} {l : List Blk} (h : OwnB U w base v l) : AppB U w base v l v w := ⟨h, grown_refl _ _, .inl rfl⟩
theorem AppB.trans {U : TypeId} {w w1 w2 : World} {base : Nat} {v v1 v2 : Value} {l m : List Blk} (h : AppB U w base v l v1 w1) (k : AppB U w1 base v1 m v2 w2) : AppB U w base v m v2 w2 := by
  have hs := h.2.1.size
  refine ⟨k.1, ⟨k.2.1.os.trans h.2.1.os, k.2.1.tape.trans h.2.1.tape, k.2.1.output.trans h.2.1.output, Nat.le_trans hs k.2.1.size, fun i hi hv => ?_⟩, ?_⟩
  · rw [k.2.1.block i (Nat.lt_of_lt_of_le hi hs) (fun e => ?_), h.2.1.block i hi hv]
    rcases h.2.2 with q | ⟨z, q, hz⟩
    · exact hv (e.trans q)
    · rw [q] at e
      injection e with e
      omega
  · rcases k.2.2 with q | ⟨z, q, hz⟩
    · rcases h.2.2 with q2 | q2
      · exact .inl (q.trans q2)
      · rw [q]; exact .inr q2
    · exact .inr ⟨z, q, Nat.le_trans hs hz⟩
/-- What comes of fill. -/
def FilldP (w : World) (base : Nat) (v : Value) (G : List Blk) (a b : Int) (e : Ending) (w' : World) : Prop :=
  ∃ v' G' p, e = .returned v' ∧ AppB 65 w base v G' v' w' ∧ (G'.length : Int) ≤ G.length + max 0 (b - a) ∧ FillInv G a b G' p ∧ b ≤ p
def FillRel (w : World) (base : Nat) (v0 : Value) (G : List Blk) (a b : Int) (v i : Value) (wr : World) : Prop :=
  ∃ (G' : List Blk) (p : Int), i = .int .i64 p ∧ a ≤ p ∧ p ≤ max a b ∧ AppB 65 w base v0 G' v wr ∧ (G'.length : Int) ≤ G.length + (p - a) ∧ FillInv G a b G' p
def SizeRel (p b : Int) (W : World) (o s : Value) (wr : World) : Prop :=
  ∃ k : Int, 0 ≤ k ∧ o = .int .i64 k ∧ s = .int .i64 (sz k) ∧ p % sz k = 0 ∧ p + sz k ≤ b ∧ wr = W
set_option maxHeartbeats 2000000 in
theorem fill_any (v : Value) (G : List Blk) (a b : Int) (base : Nat) (w : World) (h : OwnB 65 w base v G) (hbase : base ≤ w.heap.size) (ha : 0 ≤ a) (ha2 : a ≤ 1099511627776) (hb : b ≤ 1099511627776) (hG : G.length ≤ 4398046511104) :
    Calls Tryz.prog 131 #[v, .int .i64 a, .int .i64 b] w (FilldP w base v G a b) := by
  have Ho := Lib.hid h
  clear h
  go_enter Tryz.func131, Tryz.ntmps131
  go_wp2
  go_loopw [0, 1] (FillRel w base v G a b) (fun _ i _ => (b - intOf i).toNat)
  case atStart => exact ⟨G, a, rfl, by omega, by omega, AppB.refl Ho.out, by omega, FillInv.start G a b⟩
  case round =>
    obtain ⟨G', p, rfl, hap, hpm, hown, hlen, hinv⟩ := hrel
    have Hown := Lib.hid hown
    have Hlen := Lib.hid hlen
    have Hinv := Lib.hid hinv
    clear hown hlen hinv
    by_cases hlt : p < b
    · go_wp2
      go_loopw [7, 8] (SizeRel p b wr) (fun _ s _ => (b - p - intOf s).toNat)
      case atStart => exact ⟨0, by omega, rfl, by rw [sz0], by rw [sz0]; omega, by rw [sz0]; omega, rfl⟩
      case round =>
        obtain ⟨k, hk0, rfl, rfl, hm, hle, rfl⟩ := hrel
        have hs0 := sz_pos k
        have Hk := Lib.hid hm
        have Hle := Lib.hid hle
        obtain ⟨s, hs⟩ : ∃ s, sz k = s := ⟨_, rfl⟩
        have Hs := Lib.hid hs
        rw [hs] at hs0 hle ⊢
        have hs40 : s ≤ 1099511627776 := by omega
        have hp0 : 0 ≤ p := by omega
        have hk40 : k ≤ 40 := sz_mono (by omega) (by rw [hs]; exact Int.le_trans hs40 (by decide))
        have hp40 : p ≤ 1099511627776 := by omega
        have htm : p.tmod (2 * s) = p % (2 * s) := Int.tmod_eq_emod_of_nonneg hp0
        clear hm hs
        by_cases c1 : p % (2 * s) = 0
        · have hT : p.tmod (2 * s) = 0 := by rw [htm]; exact c1
          have HT := Lib.hid c1
          clear htm c1
          by_cases c2 : p + 2 * s ≤ b
          · have hsc := Lib.hid (show p % sz (k + 1) = 0 ∧ p + sz (k + 1) ≤ b from by rw [sz_succ hk0, Hs.out]; exact ⟨HT.out, c2⟩)
            have hsz2 := Lib.hid (show (2 : Int) * s = sz (k + 1) from by rw [sz_succ hk0, Hs.out])
            go_wp2
            go_roundw
            case rel => exact ⟨k + 1, by omega, by go_num, by rw [hsz2.out], hsc.out.1, hsc.out.2, rfl⟩
            case measure => simp [intOf]; omega
          · have HN := Lib.hid (show ¬ (p % (2 * s) = 0 ∧ p + 2 * s ≤ b) from fun q => c2 q.2)
            obtain ⟨n0, hn0⟩ : ∃ n0, G'.length = n0 := ⟨_, rfl⟩
            obtain ⟨A0, cap0, rfl, _, _, _⟩ := Hown.out.1.shape hn0
            obtain ⟨v5, w5, hae, happ⟩ := run_appB_one (P := Tryz.prog) base 24 24 65 Tryz.underlying24 Tryz.infoBlk2 rfl _ _ Hown.out.1 (p, k) (by have := Hlen.out; omega) (Nat.le_trans hbase Hown.out.2.1.size)
            obtain ⟨A5, cap5, e5, _, _, _⟩ := happ.1.shape (n := n0 + 1) (by rw [List.length_append, hn0]; rfl)
            subst e5
            have O5 := Lib.hid (Hown.out.trans happ)
            have L5 := Lib.hid (show ((G' ++ [(p, k)]).length : Int) ≤ G.length + (p + s - a) from by rw [List.length_append]; have := Hlen.out; simp; omega)
            have I5 := Lib.hid (Hinv.out.step hap hlt hp0 hk0 Hk.out Hle.out (by rw [Hs.out]; exact HN.out))
            rw [Hs.out] at I5
            simp only at hae
            clear happ hn0
            go_wp2_with (at_builtin; refine wpList_append_run hae rfl _ _ rfl rfl rfl rfl ?_)
            go_roundw
            case rel => exact ⟨_, p + s, rfl, by omega, by omega, O5.out, L5.out, I5.out⟩
            case measure => simp [intOf]; omega
        · obtain ⟨q, hq⟩ : ∃ q, p % (2 * s) = q := ⟨_, rfl⟩
          have HN := Lib.hid (show ¬ (p % (2 * s) = 0 ∧ p + 2 * s ≤ b) from fun q => c1 q.1)
          rw [hq] at htm c1
          have c3 : (q == 0) = false := by simpa using c1
          clear hq
          obtain ⟨n0, hn0⟩ : ∃ n0, G'.length = n0 := ⟨_, rfl⟩
          obtain ⟨A0, cap0, rfl, _, _, _⟩ := Hown.out.1.shape hn0
          obtain ⟨v5, w5, hae, happ⟩ := run_appB_one (P := Tryz.prog) base 24 24 65 Tryz.underlying24 Tryz.infoBlk2 rfl _ _ Hown.out.1 (p, k) (by have := Hlen.out; omega) (Nat.le_trans hbase Hown.out.2.1.size)
          obtain ⟨A5, cap5, e5, _, _, _⟩ := happ.1.shape (n := n0 + 1) (by rw [List.length_append, hn0]; rfl)
          subst e5
          have O5 := Lib.hid (Hown.out.trans happ)
          have L5 := Lib.hid (show ((G' ++ [(p, k)]).length : Int) ≤ G.length + (p + s - a) from by rw [List.length_append]; have := Hlen.out; simp; omega)
          have I5 := Lib.hid (Hinv.out.step hap hlt hp0 hk0 Hk.out Hle.out (by rw [Hs.out]; exact HN.out))
          rw [Hs.out] at I5
          simp only at hae
          clear happ hn0
          go_wp2_with (at_builtin; refine wpList_append_run hae rfl _ _ rfl rfl rfl rfl ?_)
          go_roundw
          case rel => exact ⟨_, p + s, rfl, by omega, by omega, O5.out, L5.out, I5.out⟩
          case measure => simp [intOf]; omega
    · have hnl : ¬ p < b := hlt
      obtain ⟨n0, hn0⟩ : ∃ n0, G'.length = n0 := ⟨_, rfl⟩
      obtain ⟨A0, cap0, rfl, _, _, _⟩ := Hown.out.1.shape hn0
      clear hn0
      go_wp2
      go_ret
      exact ⟨_, G', p, rfl, Hown.out, by have := Hlen.out; omega, Hinv.out, by omega⟩
end Go.Proofs.YtlnmmklpccppmaaGreatDoor
namespace Go.Proofs.YtlnmmklpccppmaaGreatDoor
open Go.RowKit Go.Sort
set_option maxHeartbeats 1000000 in
theorem cmpBeside_any (x y : Blk) (W : World) : Calls Tryz.prog 130 #[.agg #[.int .i64 x.1, .int .i64 x.2], .agg #[.int .i64 y.1, .int .i64 y.2]] W fun e w' => e = .returned (.int .i64 (cmpAt x y)) ∧ ∃ q os', w' = grow (W.drewN q) os' := by
  have hcon := fun W' => AnyG.cmp_Compare_int Tryz.cmpI x.1 y.1 W'
  change ∀ W', Calls Tryz.prog 116 _ _ _ at hcon
  unfold cmpAt
  generalize Lib.compareInt x.1 y.1 = r at hcon ⊢
  go_enter Tryz.func130, Tryz.ntmps130
  go_wp2_with (go_at_call 116; refine (hcon _).mono ?_; rintro e w' ⟨rfl, rfl⟩)
  go_ret
  exact ⟨rfl, 0, _, by rw [alloc_eq_grow, alloc_eq_grow, grow_grow]; rfl⟩
set_option maxHeartbeats 1000000 in
theorem sortBeside_any (base : Nat) (v : Value) (l : List Blk) (w : World) (h : OwnB 65 w base v l) (hl : l.length ≤ 2000) :
    Calls Tryz.prog 114 #[v, .func (.func 130) #[] #[]] w (RisesB base v l w) := by
  obtain ⟨n, hn⟩ : ∃ n, n = l.length := ⟨_, rfl⟩
  have eg : ∀ args w, (callFunc 130 args).run Tryz.prog w = .ok (.enter 130 args) w := enters_of Tryz.func130 (by kernel_rfl) rfl
  by_cases h0 : n = 0
  · obtain ⟨A, c, rfl, _⟩ := h.shape hn.symm
    subst h0
    obtain rfl : l = [] := List.eq_nil_of_length_eq_zero hn.symm
    have hcon := AnyF.slices_SortFunc_none Tryz.sortB A c (.func (.func 130) #[] #[]) w
    change Calls Tryz.prog 114 _ _ _ at hcon
    exact hcon.mono fun e w' q => ⟨q.1, [], List.Perm.refl _, List.Pairwise.nil, by rw [q.2]; exact h, by rw [q.2]; exact grown_refl _ _⟩
  · obtain ⟨g, cap, rfl, _, hg, _, _⟩ := h.form hn.symm (by omega)
    have hcon := AnyQ.slices_SortFunc Tryz.sortB 2 Tryz.isAgg65 Tryz.sizeOf65 enc2 (fun _ => rfl) (fun x v hv => by simp [enc2] at hv; rcases hv with rfl | rfl <;> rfl) cmpAt swoAt 130 #[] g 0 cap l.toArray w eg
      (fun _ _ _ _ x y => cmpBeside_any x y _) (holds_own h hn.symm) hg (by simp; omega)
    change Calls Tryz.prog 114 _ _ _ at hcon
    rw [List.size_toArray, ← hn] at hcon
    refine hcon.mono fun e w' q => ?_
    obtain ⟨rfl, d', m, os, hp, hs, rfl⟩ := q
    obtain ⟨p1, _, p3⟩ := hp
    have hsz : d'.size = n := by rw [p1, List.size_toArray, hn]
    have e1 : (d'.extract 0 n).toList = d'.toList := by rw [← hsz, Array.extract_size]
    have e2 : (l.toArray.extract 0 n).toList = l := by rw [hn, ← List.size_toArray, Array.extract_size]
    rw [e1, e2] at p3
    have hlen : d'.toList.length = n := by rw [p3.length_eq, hn]
    refine ⟨rfl, d'.toList, p3, ?_, ?_, ?_⟩
    · rw [List.pairwise_iff_getElem]
      intro i j hi hj hij
      have := hs i j (Nat.zero_le _) hij (by omega)
      rw [ltAt] at this
      simp only [Array.length_toList] at hi hj
      rw [getElem!_pos d' j hj, getElem!_pos d' i hi] at this
      simp only [Array.getElem_toList]
      have := of_decide_eq_false this
      omega
    · have := own_sorted (m := m) (os := os) h hn.symm hlen
      simpa using this
    · exact grown_sorted d'
/-- Up to some of the blocks that rise: what comes of filling between them. -/
def BesInv (T : List Blk) (j : Nat) (G : List Blk) (p : Int) : Prop :=
  ∀ (od : Int) (F : List Blk), FreeOf od T F → (∃ k, G = F.take k ∧ Part F p k) ∧ p ≤ sz od ∧ (∀ (i : Nat) (b : Blk), i < j → T[i]? = some b → b.1 + sz b.2 ≤ p) ∧ ∀ (i : Nat) (b : Blk), j ≤ i → T[i]? = some b → p ≤ b.1
theorem BesInv.start (T : List Blk) : BesInv T 0 [] 0 := fun od _ h =>
  ⟨⟨0, rfl, Part.start h.right⟩, Int.le_of_lt (sz_pos od), fun _ _ hi => absurd hi (Nat.not_lt_zero _), fun _ b _ hb => (h.may b (List.mem_of_getElem? hb)).2.2.1⟩
/-- What FillInv, that ended, says. -/
def Filled (G : List Blk) (a b : Int) (G' : List Blk) : Prop :=
  ∀ (r : Int) (F : List Blk) (k : Nat), Right r F → G = F.take k → Part F a k → a ≤ b → b ≤ sz r → (∀ x, a ≤ x → x < b → Cov F x) → ¬ Cov F b → ∃ k', G' = F.take k' ∧ Part F b k'
theorem FillInv.filled {G G' : List Blk} {a b p : Int} (h : FillInv G a b G' p) (hp : b ≤ p) : Filled G a b G' := fun _ _ _ hR hG hP hab hb hc hn => h.done hp hR hG hP hab hb hc hn
theorem BesInv.step {T G G' : List Blk} {j : Nat} {p : Int} (h : BesInv T j G p) (hp0 : 0 ≤ p) (hs : T.Pairwise (fun a b => a.1 ≤ b.1)) {B : Blk} (hB : T[j]? = some B) (hf : Filled G p B.1 G') : BesInv T (j + 1) G' (B.1 + sz B.2) := by
  intro od F hF
  obtain ⟨⟨k, hG, hP⟩, hp, hbef, haft⟩ := h od F hF
  have hBm := List.mem_of_getElem? hB
  have hM := hF.may B hBm
  have hz := sz_pos B.2
  have hpB := haft j B (Nat.le_refl _) hB
  have hord : ∀ (i : Nat) (b : Blk), j < i → T[i]? = some b → B.1 ≤ b.1 := fun i b hi hb => by
    obtain ⟨h1, e1⟩ := List.getElem?_eq_some_iff.1 hB
    obtain ⟨h2, e2⟩ := List.getElem?_eq_some_iff.1 hb
    have := List.pairwise_iff_getElem.1 hs j i h1 h2 hi
    rw [e1, e2] at this
    exact this
  have hap : ∀ (i : Nat) (b : Blk), j < i → T[i]? = some b → ¬ Meets b B := fun i b hi hb => by
    obtain ⟨h1, e1⟩ := List.getElem?_eq_some_iff.1 hB
    obtain ⟨h2, e2⟩ := List.getElem?_eq_some_iff.1 hb
    have := List.pairwise_iff_getElem.1 hF.apart j i h1 h2 hi
    rw [e1, e2] at this
    exact this
  have hnB : ∀ x, InB B x → ¬ Cov F x := fun x hx hc => ((hF.cov x).1 hc).2.2 ⟨B, hBm, hx⟩
  obtain ⟨k', hG', hP'⟩ := hf od F k hF.right hG hP hpB (by have := hM.2.2.2.1; omega) (fun x h1 h2 => (hF.cov x).2 ⟨by omega, by have := hM.2.2.2.1; omega, fun ⟨b, hb, hxb⟩ => by
    obtain ⟨i, hi⟩ := List.mem_iff_getElem?.1 hb
    rcases Nat.lt_or_ge i j with q | q
    · have := hbef i b q hi
      unfold InB at hxb
      omega
    · rcases Nat.lt_or_ge j i with q2 | q2
      · have := hord i b q2 hi
        unfold InB at hxb
        omega
      · obtain rfl : i = j := by omega
        rw [hB] at hi
        injection hi with hi
        subst hi
        unfold InB at hxb
        omega⟩) (hnB _ (self_in B))
  refine ⟨⟨k', hG', hP'.skip (by omega) fun x h1 h2 => hnB x ⟨h1, h2⟩⟩, by have := hM.2.2.2.1; omega, fun i b hi hb => ?_, fun i b hi hb => ?_⟩
  · rcases Nat.lt_or_ge i j with q | q
    · have := hbef i b q hb
      omega
    · obtain rfl : i = j := by omega
      rw [hB] at hb
      injection hb with hb
      subst hb
      omega
  · have h1 := hord i b (by omega) hb
    have h2 := hap i b (by omega) hb
    have h3 := sz_pos b.2
    rcases Int.lt_or_le b.1 (B.1 + sz B.2) with q | q
    · exact absurd ⟨q, by omega⟩ h2
    · exact q
theorem BesInv.done {T G G' : List Blk} {p N : Int} (h : BesInv T T.length G p) (hp0 : 0 ≤ p) (hf : Filled G p N G') {od : Int} {F : List Blk} (hF : FreeOf od T F) (hN : N = sz od) : G' = F := by
  subst hN
  obtain ⟨⟨k, hG, hP⟩, hp, hbef, _⟩ := h od F hF
  obtain ⟨k', hG', hP'⟩ := hf od F k hF.right hG hP hp (Int.le_refl _) (fun x h1 h2 => (hF.cov x).2 ⟨by omega, h2, fun ⟨b, hb, hxb⟩ => by
    obtain ⟨i, hi⟩ := List.mem_iff_getElem?.1 hb
    have := hbef i b (List.getElem?_eq_some_iff.1 hi).1 hi
    unfold InB at hxb
    omega⟩) (fun hc => by have := ((hF.cov _).1 hc).2.1; omega)
  rw [hG', hP'.done hF.right]
end Go.Proofs.YtlnmmklpccppmaaGreatDoor
namespace Go.Proofs.YtlnmmklpccppmaaGreatDoor
open Go.RowKit Go.Sort
/-- What freeBeside answers: where something is free beside the objects' blocks, that. -/
def BesideP (w : World) (os : List Ob) (N : Int) (e : Ending) (w' : World) : Prop :=
  ∃ v F', e = .returned v ∧ OwnB 65 w' w.heap.size v F' ∧ Below w.heap.size w w' ∧ (F'.length : Int) ≤ 2199023255552 ∧ ∀ od F, N = sz od → FreeOf od (os.map Ob.bl) F → F' = F
/-- The blocks of the first k objects are taken. -/
def TakeRel (w : World) (n : Nat) (os : List Ob) (i : Value) (wr : World) : Prop :=
  ∃ (k : Nat) (cur : List Value), k ≤ n ∧ i = .int .i64 (k : Int) ∧ Whole wr w.heap.size 65 cur ∧ cur.length = n * 2 ∧ cur.take (k * 2) = bcs ((os.take k).map Ob.bl) ∧ Below w.heap.size w wr
/-- The gaps ahead of the first j blocks are filled. -/
def BesRel (W : World) (n : Nat) (T : List Blk) (v p i : Value) (wr : World) : Prop :=
  ∃ (j : Nat) (G : List Blk) (q : Int), j ≤ n ∧ i = .int .i64 (j : Int) ∧ p = .int .i64 q ∧ 0 ≤ q ∧ q ≤ 4294967296 ∧ OwnB 65 wr W.heap.size v G ∧ (G.length : Int) ≤ (j : Int) * 4294967296 ∧ BesInv T j G q ∧ Below W.heap.size W wr
def BlkOk (x : Ob) : Prop := 0 ≤ x.bl.1 ∧ x.bl.1 ≤ 2147483647 ∧ 0 ≤ x.bl.2 ∧ x.bl.2 ≤ 6
set_option maxHeartbeats 2000000 in
theorem freeBeside_any (A : Option Addr) (n c : Nat) (os : List Ob) (N : Int) (w : World) (h : RdO w A n os) (hn : n ≤ 256) (hN0 : 0 ≤ N) (hN : N ≤ 256) (hok : ∀ x ∈ os, BlkOk x) :
    Calls Tryz.prog 87 #[.slice A n c, .int .i64 N] w (BesideP w os N) := by
  have hlen := h.len
  obtain ⟨cur, hcl, hcm, hmk⟩ := run_makeS (P := Tryz.prog) Tryz.underlying24 Tryz.infoBlk2 rfl (by omega) n (by omega) (by omega)
  have HR := Lib.hid h
  have K0 := Lib.hid (Whole.new w cur.toArray 65)
  have B0 := Lib.hid ((Below.refl w.heap.size w).alloc (Nat.le_refl _) (.cells cur.toArray 65))
  have Hcl := Lib.hid hcl
  have Hok := Lib.hid hok
  have Hlen := Lib.hid hlen
  clear h hcm hcl hok hlen
  go_enter Tryz.func87, Tryz.ntmps87
  go_wp2
  clear hmk
  go_loopw [17] (TakeRel w n os) (fun i _ => n - (intOf i).toNat)
  case atStart => exact ⟨0, cur, Nat.zero_le _, rfl, K0.out, Hcl.out, by simp [bcs], B0.out⟩
  case round =>
    clear K0 B0 Hcl
    obtain ⟨k, cur', hk, rfl, hw, hcl, htk, hbw⟩ := hrel
    have Hw := Lib.hid hw
    have Hcl := Lib.hid hcl
    have Htk := Lib.hid htk
    have Hbw := Lib.hid hbw
    clear hw hcl htk hbw
    by_cases hlt : k < n
    · have hki : (k : Int) < (n : Int) := by omega
      obtain ⟨b', off, x, rfl, hbl, hx, A1, n1, c1, A2, n2, c2, x0, x1, x2, x3, x4, _, _⟩ := HR.out.get hlt
      have hbr := Nat.lt_of_lt_of_le hbl Hbw.out.size
      have y0 := (Hbw.out.cell (p := ⟨b', off + k * 5, none⟩) hbl).trans x0
      have y1 := (Hbw.out.cell (p := ⟨b', off + k * 5 + 1, none⟩) hbl).trans x1
      have y2 := (Hbw.out.cell (p := ⟨b', off + k * 5 + 2, none⟩) hbl).trans x2
      have y3 := (Hbw.out.cell (p := ⟨b', off + k * 5 + 3, none⟩) hbl).trans x3
      have y4 := (Hbw.out.cell (p := ⟨b', off + k * 5 + 4, none⟩) hbl).trans x4
      have hkl : k * 2 + 2 ≤ cur'.length := by rw [Hcl.out]; omega
      obtain ⟨u0, hu0⟩ : ∃ u, wr.cell? ⟨w.heap.size, k * 2, none⟩ = some u := ⟨_, by rw [Hw.out.cell, List.getElem?_eq_getElem (by omega)]⟩
      obtain ⟨u1, hu1⟩ : ∃ u, wr.cell? ⟨w.heap.size, k * 2 + 1, none⟩ = some u := ⟨_, by rw [Hw.out.cell, List.getElem?_eq_getElem (by omega)]⟩
      have z0 := Hw.out.free (k * 2)
      have z1 := Hw.out.free (k * 2 + 1)
      have hbq := Hw.out.lt
      have Hx := Lib.hid hx
      clear hx x0 x1 x2 x3 x4 hkl
      have hset := Lib.hid (show ((cur'.set (k * 2) (.int .i64 x.bl.1)).set (k * 2 + 1) (.int .i64 x.bl.2)).take ((k + 1) * 2) = bcs ((os.take (k + 1)).map Ob.bl) from by
        rw [show (k + 1) * 2 = k * 2 + 2 by omega, sets2 (by rw [Hcl.out]; omega), Htk.out, List.take_add_one, Hx.out, List.map_append, bcs_append]
        rfl)
      go_wp2
      go_roundw
      case rel =>
        refine ⟨k + 1, (cur'.set (k * 2) (.int .i64 x.bl.1)).set (k * 2 + 1) (.int .i64 x.bl.2), by omega, by go_num, ((Hw.out.set _ _).set _ _).alloc _, by simp [Hcl.out], hset.out, ?_⟩
        have b1 := Hbw.out.setCell (p := ⟨w.heap.size, k * 2, none⟩) (Nat.le_refl _) (.int .i64 x.bl.1)
        have b2 := b1.setCell (p := ⟨w.heap.size, k * 2 + 1, none⟩) (Nat.le_refl _) (.int .i64 x.bl.2)
        exact b2.alloc b2.size _
      case measure => simp [intOf]; omega
    · obtain rfl : k = n := by omega
      have hown : OwnB 65 wr w.heap.size (.slice (some ⟨w.heap.size, 0, none⟩) k k) (os.map Ob.bl) := by
        have ht := Htk.out
        rw [show os.take k = os from List.take_of_length_le (by rw [Hlen.out]; exact Nat.le_refl _)] at ht
        unfold OwnB
        rw [List.length_map, Hlen.out]
        exact Hw.out.ownS (Nat.le_refl _) Hcl.out (by rw [bcs_length, List.length_map, Hlen.out]) ht (by simp only [maxLen]; omega)
      have S := sortBeside_any w.heap.size _ _ wr hown (by rw [List.length_map, Hlen.out]; omega)
      have hsz := Hw.out.lt
      clear Hw Hcl Htk hown
      go_wp2_with fail
      refine S.mono ?_
      rintro e w4 ⟨rfl, T, hperm, hs, o4, gb⟩
      have hTn : T.length = k := by rw [hperm.length_eq, List.length_map, Hlen.out]
      have B4 : Below w.heap.size w w4 := below_grown Hbw.out gb Hbw.out.size (Nat.le_refl _)
      have O4 := Lib.hid o4
      have HB4 := Lib.hid B4
      have Hp := Lib.hid hperm
      have Hs := Lib.hid hs
      have hq4 := (o4.lt _ rfl).2
      simp only at hq4
      have Hbk := Lib.hid (show ∀ B ∈ T, 0 ≤ B.1 ∧ B.1 ≤ 2147483647 ∧ 0 ≤ B.2 ∧ B.2 ≤ 6 from fun B hB => by
        obtain ⟨x, hx, rfl⟩ := List.mem_map.1 (hperm.mem_iff.1 hB)
        exact Hok.out x hx)
      have HT := Lib.hid hTn
      clear S hperm hs o4 gb B4 Hbw hTn
      go_wp2
      go_loopw [8, 9, 32] (BesRel w4 k T) (fun _ _ i _ => k - (intOf i).toNat)
      case atStart => exact ⟨0, [], 0, Nat.zero_le _, rfl, rfl, by omega, by omega, OwnB.nil, by simp, BesInv.start T, Below.refl _ _⟩
      case round =>
        obtain ⟨j, G, q, hj, rfl, rfl, hq0, hqm, hown, hGl, hinv, hbw⟩ := hrel
        have Hown := Lib.hid hown
        have HGl := Lib.hid hGl
        have Hinv := Lib.hid hinv
        have Hbw := Lib.hid hbw
        clear hown hGl hinv hbw
        by_cases hlt : j < k
        · have hji : (j : Int) < (k : Int) := by omega
          obtain ⟨B, hB⟩ : ∃ B, T[j]? = some B := ⟨_, List.getElem?_eq_getElem (by rw [HT.out]; exact hlt)⟩
          obtain ⟨a0, a1⟩ := O4.out.cell HT.out hB
          obtain ⟨b1, b2, b3, b4⟩ := Hbk.out B (List.mem_of_getElem? hB)
          have d0 := (Hbw.out.cell (p := ⟨w.heap.size, j * 2, none⟩) hq4).trans a0
          have d1 := (Hbw.out.cell (p := ⟨w.heap.size, j * 2 + 1, none⟩) hq4).trans a1
          have HB := Lib.hid hB
          have hsz2 := Hbw.out.size
          have hwq : w.heap.size < wr.heap.size := by omega
          clear hB a0 a1
          obtain ⟨Ba, Bo⟩ := B
          simp only at b1 b2 b3 b4 d0 d1
          have R := fill_any u8 G q Ba w4.heap.size (wr.alloc (.cells #[.int .i64 Ba, .int .i64 Bo] 65)) (Hown.out.below ((Below.refl _ _).alloc (Nat.le_refl _) _)) (by simp; omega) hq0 (by omega) (by omega) (by have := HGl.out; omega)
          have KX := Whole.new wr #[.int .i64 Ba, .int .i64 Bo] 65
          have B1 := Hbw.out.alloc Hbw.out.size (.cells #[.int .i64 Ba, .int .i64 Bo] 65)
          go_wp2_with fail
          refine R.mono ?_
          rintro e w5 ⟨v5, G5, p5, rfl, ap5, hl5, hi5, hle5⟩
          have ho := Hown.out.below ((Below.refl wr.heap.size wr).alloc (Nat.le_refl _) (.cells #[.int .i64 Ba, .int .i64 Bo] 65))
          have hne5 : u8.ownBlock ≠ some wr.heap.size := fun e => by have := (Hown.out.lt _ e).2; omega
          have KX5 := KX.keep (ap5.2.1.block _ KX.lt (fun e => hne5 e.symm))
          have e0 := KX5.cell 0
          have e1 := KX5.cell 1
          have Hstep := Lib.hid (Hinv.out.step hq0 Hs.out HB.out (hi5.filled hle5))
          have Hap := Lib.hid ap5.1
          have Hbel := Lib.hid (ap5.below ho (Nat.le_refl _) (by simp; omega) B1)
          have Hl5 := Lib.hid (show (G5.length : Int) ≤ ((j + 1 : Nat) : Int) * 4294967296 from by have := HGl.out; omega)
          have hsp : sz Bo ≤ 64 := by
            have := sz_le (o := Bo) (p := 6) b3 b4 (by omega)
            rwa [sz6] at this
          have hsp0 := sz_pos Bo
          clear R KX KX5 ap5 ho hne5 B1 hl5 hi5 hle5 d0 d1 hwq
          simp only at Hstep
          rcases (show Bo = 0 ∨ Bo = 1 ∨ Bo = 2 ∨ Bo = 3 ∨ Bo = 4 ∨ Bo = 5 ∨ Bo = 6 by omega) with h | h | h | h | h | h | h <;> subst h
          all_goals
            simp only [sz0, sz1, sz2, sz3, sz4, sz5, sz6] at Hstep hsp hsp0
            go_wp2
            go_region
            go_wp2
            go_roundw
            case rel => exact ⟨j + 1, G5, _, by omega, by go_num, rfl, by omega, by omega, Hap.out.drew, Hl5.out, Hstep.out, Hbel.out.drew⟩
            case measure => simp [intOf]; omega
        · obtain rfl : j = k := by omega
          have hown := Hown.out
          have R := fill_any u8 G q N w4.heap.size wr hown Hbw.out.size hq0 (by omega) (by omega) (by have := HGl.out; omega)
          go_wp2_with fail
          refine R.mono ?_
          rintro e w5 ⟨v5, G5, p5, rfl, ap5, hl5, hi5, hle5⟩
          have Hap := Lib.hid (ap5.1.mono (base' := w.heap.size) (by omega))
          have hb5 := ap5.below hown (Nat.le_refl _) Hbw.out.size Hbw.out
          have Hb := Lib.hid (HB4.out.trans (hb5.mono HB4.out.size))
          have Hl5 := Lib.hid (show (G5.length : Int) ≤ 2199023255552 from by have := HGl.out; omega)
          have Hf := Lib.hid (show ∀ od F, N = sz od → FreeOf od (os.map Ob.bl) F → G5 = F from fun od F hN hF => by
            have hinv := Hinv.out
            rw [← HT.out] at hinv
            exact hinv.done hq0 (hi5.filled hle5) (hF.perm Hp.out.symm) hN)
          clear R ap5 hb5 hl5 hi5 hle5 hown
          go_wp2
          go_ret
          exact ⟨_, G5, rfl, Hap.out, Hb.out, Hl5.out, Hf.out⟩
end Go.Proofs.YtlnmmklpccppmaaGreatDoor
