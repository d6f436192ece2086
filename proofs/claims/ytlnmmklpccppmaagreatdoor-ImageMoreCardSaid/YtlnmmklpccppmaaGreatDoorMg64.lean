/-
  A state's bytes without their last one, or with one more, are none; so are a heap's: the walk of the statement.
-/
import Derived.Test.YtlnmmklpccppmaaGreatDoorMg63
namespace Go.Proofs.YtlnmmklpccppmaaGreatDoor
open Go.RowKit

theorem encH_pre {H K : Hp} {r : List UInt8} (h : ImH H) (k : ImH K) (e : encH H = encH K ++ r) : r = [] := by
  have h1 := h.reads (g := gp) (gp_right H h) []
  rw [List.append_nil, e, k.reads (g := gp) (gp_right K k)] at h1
  injection h1 with h1
  injection h1
theorem encS_pre {S T : St} {r : List UInt8} (h : ImS S) (k : ImS T) (e : encS S = encS T ++ r) : r = [] := by
  have h1 := h.text
  rw [e] at h1
  have h2 : rtext (encS T ++ r) = (encH T.hp, 4 + (encH T.hp).length, 0) := by
    unfold encS encN
    rw [Int.toNat_natCast, List.append_assoc, List.append_assoc]
    exact rtext_put _ k.hp.size _
  rw [h2] at h1
  injection h1 with h1 _
  have hr : encRs S.rs = encRs T.rs ++ r := by
    rw [← ImS.rest (s := S), e, ← h1]
    unfold encS
    rw [List.append_assoc, List.append_assoc, ← List.append_assoc]
    refine List.drop_left' ?_
    rw [List.length_append, encN_length]
  have h3 := (prows_codec 4 (by omega)).full S.rs [] ⟨by have := h.rows.len; omega, fun x hx => h.domR hx⟩
  rw [List.append_nil, hr, (prows_codec 4 (by omega)).full T.rs r ⟨by have := k.rows.len; omega, fun x hx => k.domR hx⟩] at h3
  injection h3 with h3
  injection h3
theorem getsH_less {H : Hp} (h : ImH H) {q : Nat} (hq : (encH H).length = q + 1) : GetsH ((encH H).take q) none := fun K k e => by
  have := encH_pre h k (r := (encH H).drop q) (by rw [e, List.take_append_drop])
  have := congrArg List.length this
  rw [List.length_drop] at this
  simp at this
  omega
theorem getsH_more {H : Hp} (h : ImH H) (x : UInt8) : GetsH (encH H ++ [x]) none := fun K k e => by
  have := encH_pre k h (r := [x]) e
  cases this
theorem getsS_less {S : St} (h : ImS S) {q : Nat} (hq : (encS S).length = q + 1) : GetsS ((encS S).take q) none := fun K k e => by
  have := encS_pre h k (r := (encS S).drop q) (by rw [e, List.take_append_drop])
  have := congrArg List.length this
  rw [List.length_drop] at this
  simp at this
  omega
theorem getsS_more {S : St} (h : ImS S) (x : UInt8) : GetsS (encS S ++ [x]) none := fun K k e => by
  have := encS_pre k h (r := [x]) e
  cases this
theorem encH_pos (H : Hp) : 0 < (encH H).length := by unfold encH; rw [List.length_append, encN_length]; omega
theorem encS_pos (S : St) : 0 < (encS S).length := by unfold encS; rw [List.length_append, encN_length]; omega
/-- The first of some bytes. -/
theorem run_head {P : Program} {t U : TypeId} (ht : P.underlying t = some (.slice U)) (hinfo : (P.info? U).map (fun i => (i.zero, i.size, i.bytes)) = some (some (.int .u8 0), 1, 1)) (A : Option Addr) (n c k : Nat) (hk : k ≤ n) (hc : n ≤ c) (W : World) :
    (Instr.slice t (.slice A n c) none (some (.int .i64 (k : Int))) none).run P W = .ok (.slice A k c) W := by
  have he : P.elem t = U := by simp [Program.elem, ht]
  rw [run_slice_h W t A n c (by rw [he]; exact ht) .i64 (k : Int) (by omega) (by omega), he, Lib.byte_size hinfo W]
  simp only [Result.andThen, sliced, Int.toNat_natCast, Nat.zero_mul, Nat.sub_zero]
  cases A with
  | none => simp
  | some a => simp [Addr.add]
theorem u8_byte {x : Int} (h : (Lit.int .u8 x).wf = true) : ∃ b : UInt8, x = (b.toNat : Int) := by
  have h2 : 0 ≤ x ∧ x ≤ 255 := by simpa [Lit.wf, IntKind.min, IntKind.max, IntKind.signed, IntKind.bits] using h
  refine ⟨UInt8.ofNat x.toNat, ?_⟩
  rw [UInt8.toNat_ofNat']
  omega
/-- One byte in a block of its own. -/
theorem rd_lit1 (w : World) (b : UInt8) : Rd (w.alloc (.cells #[.int .u8 (b.toNat : Int)] 5)) (some ⟨w.heap.size, 0, none⟩) 1 [b] := Rd.mark (l := [b]) #[.int .u8 (b.toNat : Int)] (0, 0) rfl
theorem app_step2 {w wr w1 : World} {base m2 m1 c1 : Nat} {v : Value} {A1 : Option Addr} {cs news : List UInt8} (ho : Own 5 wr base v cs) (hb : base ≤ wr.heap.size) (hl : cs.length + m1 ≤ 140737488355328) (B : Below base w wr) (b1 : Below wr.heap.size wr w1) (hr : Rd w1 A1 m1 news) (h2 : (cs ++ news).length = m2) :
    ∃ A2 c2 w2, (Builtin.append_ #[29, 29] 29 #[v, .slice A1 m1 c1]).run Tryz.prog w1 = .ok (.slice A2 m2 c2) w2 ∧ Own 5 w2 base (.slice A2 m2 c2) (cs ++ news) ∧ Below base w w2 ∧ w1.grownBy w2 v.ownBlock ∧ ((Value.slice A2 m2 c2).ownBlock = v.ownBlock ∨ (Value.slice A2 m2 c2).ownBlock = some w1.heap.size) := by
  have o1 := ho.below b1
  obtain ⟨v2, w2, hap, hown2, hg2, hor⟩ := run_app (P := Tryz.prog) base 29 29 5 Tryz.underlying29 Tryz.infoU8 v cs o1 A1 m1 c1 news hr hl (Nat.le_trans hb b1.size)
  obtain ⟨A2, c2, rfl, _, _, _⟩ := hown2.shapeN h2
  exact ⟨A2, c2, w2, hap, hown2, below_app (B.trans (b1.mono hb)) o1 hg2 (Nat.le_trans hb b1.size), hg2, hor⟩
theorem own_read {w : World} {base n c : Nat} {A : Option Addr} {l : List UInt8} (h : Own 5 w base (.slice A n c) l) (hl : l.length = n) : Rd w A n l := by
  obtain ⟨A', c', e, _, _, r⟩ := h.shapeN hl
  injection e with e1 e2 e3
  rw [e1]; exact r
set_option maxRecDepth 20000 in
set_option maxHeartbeats 8000000 in
theorem imageMore_walk (s : SSl) (S : St) (x : Int) (w : World) (hT : Tab w) (h : RdT w s S) (hI : IntsS S) (hx : (Lit.int .u8 x).wf = true) : Calls Tryz.prog 6 #[sval S s, .int .u8 x] w (Holds w) := by
  obtain ⟨y, rfl⟩ := u8_byte hx
  have g1 := (Below.refl w.heap.size w).alloc (Nat.le_refl _) (.cells (scs S s).toArray 39)
  have K0 := Whole.new w (scs S s).toArray 39
  have S1 := refBigS_any s S _ (h.below g1)
  have HT := Lib.hid hT
  have HR := Lib.hid h
  have HI := Lib.hid hI
  clear hT h hI hx
  obtain ⟨⟨A, n, c, F, m, d⟩, R, nr, cr⟩ := s
  obtain ⟨H, rs⟩ := S
  simp only [sval, scs, hcs, List.cons_append, List.nil_append] at *
  go_enter Tryz.func6, Tryz.ntmps6
  go_wp2_with fail
  generalize w.alloc (.cells #[.int .i64 H.od, .slice A n c, .int .i64 H.nx, .int .i64 (tget H 0), .int .i64 (tget H 1), .int .i64 (tget H 2), .int .i64 (tget H 3), .slice F m d, .slice R nr cr] 39) = W at g1 K0 S1 ⊢
  refine Calls.mono S1 ?_
  rintro e w1 ⟨q, rfl, hq, gr1⟩
  have b1 := gr1.below
  have B1 := g1.trans (b1.mono g1.size)
  have K1 := K0.below b1
  cases q with
  | true =>
    clear K1 K0 S1
    go_wp2
    go_ret
    exact ⟨rfl, B1⟩
  | false =>
  have hS := Lib.hid (hq rfl)
  have S3 := putState_any ⟨⟨A, n, c, F, m, d⟩, R, nr, cr⟩ ⟨H, rs⟩ w1 (HR.out.below B1) hS.out (HT.out.below B1) HI.out
  simp only [sval, scs, hcs, List.cons_append, List.nil_append] at S3
  obtain ⟨c0, c1, c2, c3, c4, c5, c6, c7, c8⟩ := K1.nine
  clear S1 K0 hq b1 gr1 g1
  go_wp2_with fail
  refine S3.mono ?_
  rintro e w2 ⟨b2, hput⟩
  have B2 := B1.trans (b2.mono B1.size)
  have K2 := K1.below b2
  have S4 := putHeap_any ⟨A, n, c, F, m, d⟩ H w2 (HR.out.hp.below B2) hS.out.1 (HT.out.below B2) HI.out.1
  simp only [hval, hcs] at S4
  have HB1 := Lib.hid B1.size
  clear S3 c0 c1 c2 c3 c4 c5 c6 c7 c8 K1 B1 b2
  obtain ⟨c0, c1, c2, c3, c4, c5, c6, c7, c8⟩ := K2.nine
  rcases hput with ⟨hR, vb, rfl, ob⟩ | ⟨hR, rfl⟩
  case inr =>
    clear hR
    go_wp2_with fail
    refine S4.mono ?_
    rintro e w3 ⟨b3, hput⟩
    have B3 := B2.trans (b3.mono B2.size)
    clear S4 c0 c1 c2 c3 c4 c5 c6 c7 c8 K2 B2 b3
    rcases hput with ⟨_, vh, rfl, oh⟩ | ⟨_, rfl⟩
    · obtain ⟨Ah, ch, rfl, _, _, _⟩ := oh.shape
      clear oh
      go_wp2_with fail
      refine (states_holds w3 (HT.out.below B3)).mono ?_
      rintro e wa ⟨rfl, ba⟩
      have Ba := B3.trans (ba.mono B3.size)
      clear ba
      go_wp2_with fail
      refine (heaps_holds wa (HT.out.below Ba)).mono ?_
      rintro e wb ⟨rfl, bb⟩
      have Bb := Lib.hid (Ba.trans (bb.mono Ba.size))
      clear Ba bb
      go_wp2
      go_ret
      exact ⟨rfl, Bb.out⟩
    · go_wp2_with fail
      refine (states_holds w3 (HT.out.below B3)).mono ?_
      rintro e wa ⟨rfl, ba⟩
      have Ba := B3.trans (ba.mono B3.size)
      clear ba
      go_wp2_with fail
      refine (heaps_holds wa (HT.out.below Ba)).mono ?_
      rintro e wb ⟨rfl, bb⟩
      have Bb := Lib.hid (Ba.trans (bb.mono Ba.size))
      clear Ba bb
      go_wp2
      go_ret
      exact ⟨rfl, Bb.out⟩
  have hIm := Lib.hid (show ImS ⟨H, rs⟩ from ⟨⟨hR.1, HR.out.hp.tp, HI.out.1⟩, hR.2, HI.out.2⟩)
  have HRh := Lib.hid hR.1
  obtain ⟨Y, hY⟩ : ∃ Y, Y = encS ⟨H, rs⟩ := ⟨_, rfl⟩
  obtain ⟨qY, hqY⟩ : ∃ q, (encS ⟨H, rs⟩).length = q + 1 := ⟨(encS ⟨H, rs⟩).length - 1, by have := encS_pos ⟨H, rs⟩; omega⟩
  have hyl := Lib.hid (encS_size hIm.out)
  have gY1 := Lib.hid (getsS_less hIm.out hqY)
  have gY2 := Lib.hid (getsS_more hIm.out y)
  rw [← hY] at ob hyl gY1 gY2 hqY
  obtain ⟨nY, hnY⟩ : ∃ nY, Y.length = nY := ⟨_, rfl⟩
  have HnY := Lib.hid hnY
  have HqY := Lib.hid (show nY = qY + 1 by omega)
  have hb7 := Lib.hid (show nY ≤ 70000 by have := hyl.out; omega)
  obtain ⟨Ab, cb, rfl, hcb, hmb, _⟩ := ob.shapeN hnY
  have Hob := Lib.hid ob
  clear hY hqY hnY ob hR
  go_wp2_with fail
  refine S4.mono ?_
  rintro e w3 ⟨b3, hput⟩
  have B3 := B2.trans (b3.mono B2.size)
  obtain ⟨Z, hZ⟩ : ∃ Z, Z = encH H := ⟨_, rfl⟩
  obtain ⟨vh, rfl, oh⟩ : ∃ v, e = .returned (.tuple #[v, .int .i64 0]) ∧ Own 5 w3 w2.heap.size v Z := by
    rw [hZ]
    rcases hput with ⟨_, h⟩ | ⟨h, _⟩
    · exact h
    · exact absurd HRh.out h
  obtain ⟨qZ, hqZ⟩ : ∃ q, (encH H).length = q + 1 := ⟨(encH H).length - 1, by have := encH_pos H; omega⟩
  have hzl := Lib.hid hIm.out.hp.size
  have gZ1 := Lib.hid (getsH_less hIm.out.hp hqZ)
  have gZ2 := Lib.hid (getsH_more hIm.out.hp y)
  simp only at hzl
  rw [← hZ] at hzl gZ1 gZ2 hqZ
  obtain ⟨nZ, hnZ⟩ : ∃ nZ, Z.length = nZ := ⟨_, rfl⟩
  have HnZ := Lib.hid hnZ
  have HqZ := Lib.hid (show nZ = qZ + 1 by omega)
  have hb6 := Lib.hid (show nZ ≤ 65536 by have := hzl.out; omega)
  obtain ⟨Ah, ch, rfl, hch, hmh, rh⟩ := oh.shapeN hnZ
  have Hob3 := Lib.hid (Hob.out.below b3)
  have Hlt := Lib.hid (fun k hk => (Hob.out.lt k hk).2)
  have Hoh := Lib.hid oh
  clear S4 c0 c1 c2 c3 c4 c5 c6 c7 c8 K2 hZ hqZ hnZ oh hput Hob b3 rh
  have hY0 : ((nY : Int) == 0) = false := by have := HqY.out; simp; omega
  have hZ0 : ((nZ : Int) == 0) = false := by have := HqZ.out; simp; omega
  have hYw : IntKind.i64.wrap ((nY : Int) - 1) = (qY : Int) := by rw [IntKind.wrap_i64]; have := HqY.out; have := hb7.out; omega
  have hZw : IntKind.i64.wrap ((nZ : Int) - 1) = (qZ : Int) := by rw [IntKind.wrap_i64]; have := HqZ.out; have := hb6.out; omega
  have hsY := run_head (P := Tryz.prog) Tryz.underlying29 Tryz.infoU8 Ab nY cb qY (by have := HqY.out; omega) hcb
  have hsZ := run_head (P := Tryz.prog) Tryz.underlying29 Tryz.infoU8 Ah nZ ch qZ (by have := HqZ.out; omega) hch
  have rb3 : Rd w3 Ab nY Y := by
    obtain ⟨A', c', e, _, _, r⟩ := Hob3.out.shapeN HnY.out
    injection e with e1 e2 e3
    rw [e1]; exact r
  have S5 := getState_any Ab qY cb (Y.take qY) w3 (rb3.take (by have := HqY.out; omega)) (by have := HqY.out; have := hb7.out; omega) (HT.out.below B3)
  clear rb3
  go_wp2_with fail
  refine S5.mono ?_
  rintro e w4 ⟨b4, hgot⟩
  obtain rfl : e = .returned (.tuple #[.agg zst.toArray, .int .i64 60]) := by
    rcases hgot with ⟨_, _, _, _, _, hg⟩ | ⟨he, _⟩
    · cases gY1.out.uniq hg
    · exact he
  have bz4 := b4.trans (((Below.refl w4.heap.size w4).alloc (Nat.le_refl _) (.cells #[.int .i64 0, .slice none 0 0, .int .i64 0, .int .i64 0, .int .i64 0, .int .i64 0, .int .i64 0, .slice none 0 0, .slice none 0 0] 39)).mono b4.size)
  have B4 := B3.trans (bz4.mono B3.size)
  have Hob4 := Lib.hid (Hob3.out.below bz4)
  have Hoh4 := Lib.hid (Hoh.out.below bz4)
  simp only [zst]
  clear hgot S5 b4 B3 Hob3 Hoh hsY hYw hY0 hZ0 gY1
  go_upto_region 10 with (fail)
  generalize w4.alloc (.cells #[.int .i64 0, .slice none 0 0, .int .i64 0, .int .i64 0, .int .i64 0, .int .i64 0, .int .i64 0, .slice none 0 0, .slice none 0 0] 39) = W4 at bz4 B4 Hob4 Hoh4 ⊢
  clear bz4
  have rh4 : Rd W4 Ah nZ Z := by
    obtain ⟨A', c', e, _, _, r⟩ := Hoh4.out.shapeN HnZ.out
    injection e with e1 e2 e3
    rw [e1]; exact r
  have S6 := getHeap_any Ah qZ ch (Z.take qZ) W4 (rh4.take (by have := HqZ.out; omega)) (by have := HqZ.out; have := hb6.out; omega) (HT.out.below B4)
  clear rh4
  go_wp2_with fail
  refine S6.mono ?_
  rintro e w5 ⟨b5, hgot⟩
  obtain rfl : e = .returned (.tuple #[.agg zcs.toArray, .int .i64 60]) := by
    rcases hgot with ⟨_, _, _, _, _, hg⟩ | ⟨he, _⟩
    · cases gZ1.out.uniq hg
    · exact he
  have bz5 := b5.trans (((Below.refl w5.heap.size w5).alloc (Nat.le_refl _) (.cells #[.int .i64 0, .slice none 0 0, .int .i64 0, .int .i64 0, .int .i64 0, .int .i64 0, .int .i64 0, .slice none 0 0] 26)).mono b5.size)
  have B5 := B4.trans (bz5.mono B4.size)
  have Hob5 := Lib.hid (Hob4.out.below bz5)
  have Hoh5 := Lib.hid (Hoh4.out.below bz5)
  simp only [zcs]
  clear hgot S6 b5 B4 Hob4 Hoh4 hsZ hZw gZ1
  go_upto_region 11 with (fail)
  generalize w5.alloc (.cells #[.int .i64 0, .slice none 0 0, .int .i64 0, .int .i64 0, .int .i64 0, .int .i64 0, .int .i64 0, .slice none 0 0] 26) = W5 at bz5 B5 Hob5 Hoh5 ⊢
  clear bz5
  have bl5 := (Below.refl W5.heap.size W5).alloc (Nat.le_refl _) (.cells #[.int .u8 (y.toNat : Int)] 5)
  have Hbw := Lib.hid (show w1.heap.size ≤ W5.heap.size by
    have h1 := Hob5.out.lt
    obtain ⟨g, cap, e, _, _⟩ := Hob5.out.form (by have := HnY.out; have := HqY.out; omega)
    have := h1 g (by rw [e]; rfl)
    omega)
  obtain ⟨A6, c6, w6, hap6, o6, b6, g6, r6⟩ := app_step2 (m1 := 1) (c1 := 1) (m2 := nY + 1) Hob5.out Hbw.out (by have := HnY.out; have := hb7.out; omega) (Below.refl w1.heap.size W5) bl5 (rd_lit1 W5 y) (by rw [List.length_append, HnY.out]; rfl)
  have hsz5 : (W5.alloc (.cells #[.int .u8 (y.toNat : Int)] 5)).heap.size = W5.heap.size + 1 := by simp
  rw [hsz5] at r6
  have hne6 : ∀ k, (Value.slice Ah nZ ch).ownBlock = some k → some k ≠ (Value.slice Ab nY cb).ownBlock := fun k hk e => by
    have h1 := Hlt.out k e.symm
    have h2 := (Hoh5.out.lt k hk).1
    omega
  have Hne8 := Lib.hid (show ∀ k, (Value.slice A6 (nY + 1) c6).ownBlock = some k → some k ≠ (Value.slice Ah nZ ch).ownBlock from fun k hk e => by
    have h2 := Hoh5.out.lt k e.symm
    rcases r6 with r | r
    · rw [hk] at r
      exact hne6 k e.symm r
    · rw [hk] at r
      injection r with r
      omega)
  have Hoh6 := Lib.hid ((Hoh5.out.below bl5).keep fun k hk => g6.block k ((Hoh5.out.below bl5).lt k hk).2 (hne6 k hk))
  have B6 := B5.trans (b6.mono HB1.out)
  have Ho6 := Lib.hid o6
  have Hbw6 := Lib.hid (show w2.heap.size ≤ w6.heap.size by
    have h1 := Hoh6.out.lt
    obtain ⟨g, cap, e, _, _⟩ := Hoh6.out.form (by have := HnZ.out; have := HqZ.out; omega)
    have := h1 g (by rw [e]; rfl)
    omega)
  clear o6 g6 r6 hne6 hsz5 bl5 b6 B5 Hob5 Hoh5 Hlt Hbw
  go_upto_region 12 with (at_builtin; refine wpList_append_run hap6 rfl _ _ rfl rfl rfl rfl ?_)
  clear hap6
  have bl6 := (Below.refl w6.heap.size w6).alloc (Nat.le_refl _) (.cells #[.int .u8 (y.toNat : Int)] 5)
  obtain ⟨A8, c8, w8, hap8, o8, b8, g8⟩ := app_step (w := w6) (m1 := 1) (c1 := 1) (m2 := nZ + 1) Hoh6.out Hbw6.out (by have := HnZ.out; have := hb6.out; omega) (Below.refl w2.heap.size w6) bl6 (rd_lit1 w6 y) (by rw [List.length_append, HnZ.out]; rfl)
  have Ho8 := Lib.hid ((Ho6.out.below bl6).keep fun k hk => g8.block k ((Ho6.out.below bl6).lt k hk).2 (Hne8.out k hk))
  have B8 := B6.trans (b8.mono B2.size)
  have Hp8 := Lib.hid o8
  clear o8 g8 bl6 b8 B6 Hoh6 Ho6 Hne8 Hbw6
  go_upto_region 13 with (at_builtin; refine wpList_append_run hap8 rfl _ _ rfl rfl rfl rfl ?_)
  clear hap8
  have S5 := getState_any A6 (nY + 1) c6 (Y ++ [y]) w8 (own_read Ho8.out (by rw [List.length_append, HnY.out]; rfl)) (by have := hb7.out; omega) (HT.out.below B8)
  obtain ⟨n6, hn6⟩ : ∃ n6, n6 = nY + 1 := ⟨_, rfl⟩
  rw [← hn6] at S5 ⊢
  clear hn6
  go_wp2_with fail
  refine S5.mono ?_
  rintro e w9 ⟨b9, hgot⟩
  obtain rfl : e = .returned (.tuple #[.agg zst.toArray, .int .i64 60]) := by
    rcases hgot with ⟨_, _, _, _, _, hg⟩ | ⟨he, _⟩
    · cases gY2.out.uniq hg
    · exact he
  have bz9 := b9.trans (((Below.refl w9.heap.size w9).alloc (Nat.le_refl _) (.cells #[.int .i64 0, .slice none 0 0, .int .i64 0, .int .i64 0, .int .i64 0, .int .i64 0, .int .i64 0, .slice none 0 0, .slice none 0 0] 39)).mono b9.size)
  have B9 := B8.trans (bz9.mono B8.size)
  have Hp9 := Lib.hid (Hp8.out.below bz9)
  simp only [zst]
  clear hgot S5 b9 B8 Ho8 Hp8 gY2
  go_upto_region 14 with (fail)
  generalize w9.alloc (.cells #[.int .i64 0, .slice none 0 0, .int .i64 0, .int .i64 0, .int .i64 0, .int .i64 0, .int .i64 0, .slice none 0 0, .slice none 0 0] 39) = W9 at bz9 B9 Hp9 ⊢
  clear bz9
  have S6 := getHeap_any A8 (nZ + 1) c8 (Z ++ [y]) W9 (own_read Hp9.out (by rw [List.length_append, HnZ.out]; rfl)) (by have := hb6.out; omega) (HT.out.below B9)
  obtain ⟨n8, hn8⟩ : ∃ n8, n8 = nZ + 1 := ⟨_, rfl⟩
  rw [← hn8] at S6 ⊢
  clear hn8
  go_wp2_with fail
  refine S6.mono ?_
  rintro e w10 ⟨b10, hgot⟩
  obtain rfl : e = .returned (.tuple #[.agg zcs.toArray, .int .i64 60]) := by
    rcases hgot with ⟨_, _, _, _, _, hg⟩ | ⟨he, _⟩
    · cases gZ2.out.uniq hg
    · exact he
  have bz10 := b10.trans (((Below.refl w10.heap.size w10).alloc (Nat.le_refl _) (.cells #[.int .i64 0, .slice none 0 0, .int .i64 0, .int .i64 0, .int .i64 0, .int .i64 0, .int .i64 0, .slice none 0 0] 26)).mono b10.size)
  have B10 := B9.trans (bz10.mono B9.size)
  simp only [zcs]
  clear hgot S6 b10 B9 Hp9 gZ2
  go_upto_region 15 with (fail)
  generalize w10.alloc (.cells #[.int .i64 0, .slice none 0 0, .int .i64 0, .int .i64 0, .int .i64 0, .int .i64 0, .int .i64 0, .slice none 0 0] 26) = W10 at bz10 B10 ⊢
  clear bz10
  go_wp2_with fail
  refine (states_holds W10 (HT.out.below B10)).mono ?_
  rintro e wa ⟨rfl, ba⟩
  have Ba := B10.trans (ba.mono B10.size)
  clear ba
  go_wp2_with fail
  refine (heaps_holds wa (HT.out.below Ba)).mono ?_
  rintro e wb ⟨rfl, bb⟩
  have Bb := Lib.hid (Ba.trans (bb.mono Ba.size))
  clear Ba bb
  go_wp2
  go_ret
  exact ⟨rfl, Bb.out⟩
end Go.Proofs.YtlnmmklpccppmaaGreatDoor
