/-
  A reader reads a heap.
-/
import Derived.Test.YtlnmmklpccppmaaGreatDoorTg39
import Derived.Test.YtlnmmklpccppmaaGreatDoorTg38
import Derived.Test.YtlnmmklpccppmaaGreatDoorTg40
import Derived.Test.YtlnmmklpccppmaaGreatDoorTg21
import Derived.Test.YtlnmmklpccppmaaGreatDoorTg22
namespace Go.Proofs.YtlnmmklpccppmaaGreatDoor
open Go.RowKit
/-- A store into an older block. -/
theorem OwnHp.grownI {w w' : World} {base r : Nat} {s : HSl} {os : List (Ob × OSl)} {H : Hp} (h : OwnHp w base s os H) (hg : w.grownBy w' (some r)) (hr : r < base) : OwnHp w' base s os H :=
  ⟨h.objs.grown hg (fun k hk e => by have := (h.objs.row_lt k hk).1; injection e with e; omega) (fun k hk e => by have := (h.objs.lt k hk).1; injection e with e; omega), h.obs, h.free.grown hg (fun k hk e => by have := (h.free.lt k hk).1; injection e with e; omega), h.tp, h.nx⟩
/-- A heap's box is made, and one more is stored into it: eight cells. -/
def sets8 (W : World) (k : Nat) (H : Hp) (s : HSl) : World :=
  (((((((W.setCell ⟨k, 0, none⟩ (.int .i64 H.od)).setCell ⟨k, 1, none⟩ (.slice s.A s.n s.c)).setCell ⟨k, 2, none⟩ (.int .i64 H.nx)).setCell ⟨k, 3, none⟩ (.int .i64 (tget H 0))).setCell ⟨k, 4, none⟩ (.int .i64 (tget H 1))).setCell ⟨k, 5, none⟩ (.int .i64 (tget H 2))).setCell ⟨k, 6, none⟩ (.int .i64 (tget H 3))).setCell ⟨k, 7, none⟩ (.slice s.F s.m s.d)
theorem sets8_grown (W : World) (k : Nat) (H : Hp) (s : HSl) : W.grownBy (sets8 W k H s) (some k) := by
  unfold sets8
  exact grown_trans (grown_trans (grown_trans (grown_trans (grown_trans (grown_trans (grown_trans (grown_set _ _ _ _) (grown_set _ _ _ _)) (grown_set _ _ _ _)) (grown_set _ _ _ _)) (grown_set _ _ _ _)) (grown_set _ _ _ _)) (grown_set _ _ _ _)) (grown_set _ _ _ _)
theorem sets8_new {w W : World} {r : Option Nat} {k : Nat} (h : w.grownBy W r) (hk : w.heap.size ≤ k) (H : Hp) (s : HSl) : w.grownBy (sets8 W k H s) r := by
  unfold sets8
  exact grown_new (grown_new (grown_new (grown_new (grown_new (grown_new (grown_new (grown_new h hk _ _) hk _ _) hk _ _) hk _ _) hk _ _) hk _ _) hk _ _) hk _ _
theorem sets8_whole {W : World} {k : Nat} {t : TypeId} {a0 a1 a2 a3 a4 a5 a6 a7 : Value} (K : Whole W k t [a0, a1, a2, a3, a4, a5, a6, a7]) (H : Hp) (s : HSl) : Whole (sets8 W k H s) k t (hcs H s) := by
  unfold sets8
  exact (((((((K.set 0 _).set 1 _).set 2 _).set 3 _).set 4 _).set 5 _).set 6 _).set 7 _
theorem zcs_nob : ∀ u ∈ zcs, ∀ x, u ≠ .int .u8 x := by
  intro u hu x e
  subst e
  simp [zcs] at hu
set_option maxHeartbeats 1000000 in
theorem mustHeap_yes (H : Hp) (s : HSl) (w : World) : Calls Tryz.prog 83 #[hval H s, .int .i64 0] w fun e w' => e = .returned (hval H s) ∧ Below w.heap.size w w' := by
  have K2 := Whole.new (w.alloc (.cells (hcs H s).toArray 26)) (hcs H s).toArray 26
  rw [show (w.alloc (.cells (hcs H s).toArray 26)).heap.size = w.heap.size + 1 by simp] at K2
  have B := ((Below.refl w.heap.size w).alloc (Nat.le_refl _) (.cells (hcs H s).toArray 26)).alloc (by simp) (.cells (hcs H s).toArray 26)
  have K3 := Lib.hid K2
  have B3 := Lib.hid B
  obtain ⟨A, n, c, F, m, d⟩ := s
  unfold hval hcs at *
  simp only at *
  clear K2 B
  go_enter Tryz.func83, Tryz.ntmps83
  go_wp2
  exact bodyPost_ret (results_c1 rfl _ _ _ _ rfl K3.out Tryz.underlying26 (by kernel_rfl)) rfl ⟨rfl, B3.out⟩
set_option maxHeartbeats 1000000 in
theorem mustHeap_no (H : Hp) (s : HSl) (er : Int) (w : World) (he : (er != 0) = true) : Calls Tryz.prog 83 #[hval H s, .int .i64 er] w fun e w' => e = .panicked gone ∧ Below w.heap.size w w' := by
  have B := ((Below.refl w.heap.size w).alloc (Nat.le_refl _) (.cells (hcs H s).toArray 26)).alloc (by simp) (.cells zcs.toArray 26)
  obtain ⟨A, n, c, F, m, d⟩ := s
  unfold hval hcs zcs at *
  simp only at *
  have HB := Lib.hid B
  clear B
  go_enter Tryz.func83, Tryz.ntmps83
  go_wp2_with fail
  refine (giveUp_any _).mono ?_
  rintro e w' ⟨rfl, rfl⟩
  go_wp2
  exact ⟨rfl, rfl, HB.out⟩
/-- Check, whatever the row of free blocks. -/
theorem checkH_any (s : HSl) (H : Hp) (w : World) (h : RdH w s H) (hL : LongH H) (hT : Tab w) : Calls Tryz.prog 35 #[hval H s] w (Tells w (.int .i64 (chkH H))) := by
  by_cases hs : H.fr.length ≤ 600
  · exact check_heap s H w h ⟨hL.1, hs, hL.2.2⟩ hT
  · exact check_heapL s H w h hL (fun q => hs (by have := q.len256; omega)) hT
/-- What may be asked of the numbers that come first. -/
def gp (od n : Int) : Bool := decide (3 ≤ od ∧ od ≤ 8) && decide (n ≤ sz od)
theorem gp_right (H : Hp) (h : ImH H) : gp H.od H.obs.length = true := by
  unfold gp
  rw [decide_eq_true h.right.fr.1, Bool.true_and]
  have h1 := sumL_ge (blks H)
  rw [h.right.sum] at h1
  unfold blks at h1
  rw [List.length_append, List.length_map] at h1
  exact decide_eq_true (by omega)
/-- The boxes of heap, and the reader's. -/
structure HpMemR (w : World) (g : Nat) (l : List UInt8) (o : Nat) (W : World) (cs : List Value) : Prop where
  rb : Whole W w.heap.size 83 [.pointer (some ⟨g, 0, none⟩)]
  res : Whole W (w.heap.size + 1) 26 zcs
  hb : Whole W o 26 cs
  rd : Rdr W g l
  gr : w.grownBy W (some g)
  lt : w.heap.size + 1 < o
  tab : Tab W
theorem HpMemR.call {w W W2 : World} {g o : Nat} {l l2 : List UInt8} {cs : List Value} (h : HpMemR w g l o W cs) (hg : g < w.heap.size) (hT : 0 ≠ g) (k : W.grownBy W2 (some g)) (r : Rdr W2 g l2) : HpMemR w g l2 o W2 cs := by
  have := h.lt
  exact ⟨h.rb.grown k (by omega), h.res.grown k (by omega), h.hb.grown k (by omega), r, grown_trans h.gr k, h.lt, h.tab.beside k hT⟩
theorem HpMemR.set {w W : World} {g o : Nat} {l : List UInt8} {cs : List Value} (h : HpMemR w g l o W cs) (hg : g < w.heap.size) (hTl : 0 < w.heap.size) (hn : ∀ u ∈ cs, nobV u) (j : Nat) (v : Value) : HpMemR w g l o (W.setCell ⟨o, j, none⟩ v) (cs.set j v) := by
  have hl := h.lt
  have gs := grown_set W o j v
  exact ⟨h.rb.grown gs (by omega), h.res.grown gs (by omega), h.hb.set j v, h.rd.apart (h.hb.noByte hn) (by omega) gs, grown_new h.gr (by omega) j v, hl, h.tab.beside gs (by have := hTl; omega)⟩
theorem HpMemR.rise {w W W2 : World} {g o : Nat} {l : List UInt8} {cs : List Value} (h : HpMemR w g l o W cs) (b : Below W.heap.size W W2) : HpMemR w g l o W2 cs :=
  ⟨h.rb.below b, h.res.below b, h.hb.below b, h.rd.keep b h.rd.lt, grown_trans h.gr (grown_below b _), h.lt, h.tab.below b⟩
/-- The cells of a heap whose first roots are read. -/
def tcs (od nx : Int) (v1 v7 : Value) (vs : List Int) (m : Nat) : List Value := [.int .i64 od, v1, .int .i64 nx] ++ ((intvs vs ++ reps m (.int .i64 0)) ++ [v7])
theorem tcs_set (od nx : Int) (v1 v7 : Value) (vs : List Int) (m : Nat) (x : Int) : (tcs od nx v1 v7 vs (m + 1)).set (3 + vs.length) (.int .i64 x) = tcs od nx v1 v7 (vs ++ [x]) m := by
  unfold tcs intvs reps
  rw [List.set_append_right _ _ (by simp), List.set_append_left _ _ (by simp), List.set_append_right _ _ (by simp)]
  simp [List.replicate_succ]
theorem tcs_get (od nx : Int) (v1 v7 : Value) (vs : List Int) (m : Nat) : (tcs od nx v1 v7 vs (m + 1))[3 + vs.length]? = some (.int .i64 0) := by
  unfold tcs intvs reps
  rw [List.getElem?_append_right (by simp), List.getElem?_append_left (by simp), List.getElem?_append_right (by simp)]
  simp [List.replicate_succ]
theorem tcs_nob (od nx : Int) (v1 v7 : Value) (vs : List Int) (m : Nat) (h1 : nobV v1) (h7 : nobV v7) : ∀ u ∈ tcs od nx v1 v7 vs m, nobV u := by
  intro u hu x e
  unfold tcs intvs reps at hu
  simp only [List.mem_append, List.mem_cons, List.not_mem_nil, or_false, List.mem_map, List.mem_replicate] at hu
  subst e
  rcases hu with (h | h | h) | (⟨y, _, h⟩ | ⟨_, h⟩) | h
  · cases h
  · exact h1 x h.symm
  · cases h
  · cases h
  · cases h
  · exact h7 x h.symm
/-- Behind the objects' reading. -/
def R8 (w : World) (g : Nat) (l : List UInt8) (o : Nat) (od nx t0 t1 t2 t3 : Int) (v7 : Value) (wc : World) : Prop :=
  ∃ (os : List (Ob × OSl)) (r : List UInt8) (A : Option Addr) (n c : Nat), praw gp l = some (⟨od, os.map (·.1), nx, [t0, t1, t2, t3], []⟩, r) ∧
    HpMemR w g r o wc [.int .i64 od, .slice A n c, .int .i64 nx, .int .i64 t0, .int .i64 t1, .int .i64 t2, .int .i64 t3, v7] ∧ OwnOs 68 3 wc (o + 1) (.slice A n c) os
theorem R8.mk_ {w W : World} {g o b : Nat} {l r : List UInt8} {od nx t0 t1 t2 t3 : Int} {v1 v7 : Value} {xs : List Ob} {os : List (Ob × OSl)} {A : Option Addr} {n c : Nat} (hP : praw gp l = some (⟨od, xs, nx, [t0, t1, t2, t3], []⟩, r)) (hos : xs = os.map (·.1)) (hg : g < w.heap.size) (hTl : 0 < w.heap.size) (h1 : nobV v1) (h7 : nobV v7)
    (M : HpMemR w g r o W [.int .i64 od, v1, .int .i64 nx, .int .i64 t0, .int .i64 t1, .int .i64 t2, .int .i64 t3, v7]) (O : OwnOs 68 3 W b (.slice A n c) os) (hb : o < b) : R8 w g l o od nx t0 t1 t2 t3 v7 (W.setCell ⟨o, 1, none⟩ (.slice A n c)) := by
  subst hos
  refine ⟨os, r, A, n, c, hP, M.set hg hTl (fun u hu => ?_) 1 (.slice A n c), (O.grown (grown_set W o 1 _) (fun k hk e => by have := (O.row_lt k hk).1; injection e with e; omega) (fun k hk e => by have := (O.lt k hk).1; injection e with e; omega)).mono hb⟩
  simp only [List.mem_cons, List.not_mem_nil, or_false] at hu
  rcases hu with rfl | rfl | rfl | rfl | rfl | rfl | rfl | rfl
  · exact fun _ e => by cases e
  · exact h1
  · exact fun _ e => by cases e
  · exact fun _ e => by cases e
  · exact fun _ e => by cases e
  · exact fun _ e => by cases e
  · exact fun _ e => by cases e
  · exact h7
/-- What is known of what R8 tells. -/
theorem praw_ok {l r : List UInt8} {R : Hp} (h : praw gp l = some (R, r)) : R.obs.length ≤ 256 ∧ (R.obs.length : Int) ≤ sz R.od ∧ 3 ≤ R.od ∧ R.od ≤ 8 ∧ R.nx ≤ 2147483647 ∧ R.tp.length = 4 ∧ R.fr = [] ∧ ∀ x ∈ R.obs, DomO x ∧ BlkOk x := by
  obtain ⟨d, _⟩ := (praw_codec gp).sound _ _ _ h
  obtain ⟨d1, d2, d3, d4, d5, d6, d7⟩ := d
  unfold gp at d5
  rw [Bool.and_eq_true, decide_eq_true_iff, decide_eq_true_iff] at d5
  have h8 := sz_le256 (o := R.od) (by omega) d5.1.2
  refine ⟨by omega, d5.2, d5.1.1, d5.1.2, d2.2, d3.1, d7, fun x hx => ⟨d6 x hx, ?_⟩⟩
  obtain ⟨a1, a2, a3, a4, a5, _, _⟩ := d6 x hx
  have hn := needI_bd x.ws.length x.ls.length
  refine ⟨a2.1, a2.2, ?_, by omega⟩
  rw [a3]
  unfold needI
  rw [if_pos ⟨by omega, by omega, by omega, by omega⟩]
  repeat (split; · omega)
  omega
/-- Behind what is free. -/
def R9 (w : World) (g : Nat) (r : List UInt8) (o : Nat) (od nx t0 t1 t2 t3 : Int) (A : Option Addr) (c : Nat) (os : List (Ob × OSl)) (wd : World) : Prop :=
  ∃ (F' : List Blk) (AF : Option Addr) (cF : Nat), HpMemR w g r o wd [.int .i64 od, .slice A os.length c, .int .i64 nx, .int .i64 t0, .int .i64 t1, .int .i64 t2, .int .i64 t3, .slice AF F'.length cF] ∧
    OwnHp wd (o + 1) ⟨A, os.length, c, AF, F'.length, cF⟩ os ⟨od, os.map (·.1), nx, [t0, t1, t2, t3], F'⟩ ∧ (F'.length : Int) ≤ 2199023255552 ∧ ∀ F, FreeOf od ((os.map (·.1)).map Ob.bl) F → F' = F
theorem R9.mk_ {w wc W : World} {g o : Nat} {r : List UInt8} {od nx t0 t1 t2 t3 N : Int} {v7 : Value} {A AF : Option Addr} {c cF : Nat} {os : List (Ob × OSl)} {F' : List Blk} (hN : sz od = N) (hnx : nx ≤ 2147483647) (hg : g < w.heap.size) (hTl : 0 < w.heap.size) (h7 : nobV v7)
    (M : HpMemR w g r o W [.int .i64 od, .slice A os.length c, .int .i64 nx, .int .i64 t0, .int .i64 t1, .int .i64 t2, .int .i64 t3, v7]) (hoc : o < wc.heap.size) (B : Below wc.heap.size wc W)
    (O : OwnOs 68 3 wc (o + 1) (.slice A os.length c) os) (oF : OwnB 65 W wc.heap.size (.slice AF F'.length cF) F') (lF : (F'.length : Int) ≤ 2199023255552) (uF : ∀ od F, N = sz od → FreeOf od ((os.map (·.1)).map Ob.bl) F → F' = F) :
    R9 w g r o od nx t0 t1 t2 t3 A c os (W.setCell ⟨o, 7, none⟩ (.slice AF F'.length cF)) := by
  have gs := grown_set W o 7 (.slice AF F'.length cF)
  refine ⟨F', AF, cF, M.set hg hTl (fun u hu => ?_) 7 _, ⟨(O.below B).grown gs (fun k hk e => by have := (O.row_lt k hk).1; injection e with e; omega) (fun k hk e => by have := (O.lt k hk).1; injection e with e; omega), rfl, (oF.grown gs (fun k hk e => by have := (oF.lt k hk).1; injection e with e; omega)).mono (by omega), rfl, by simp only; omega⟩, lF, fun F hF => uF od F hN.symm hF⟩
  simp only [List.mem_cons, List.not_mem_nil, or_false] at hu
  rcases hu with rfl | rfl | rfl | rfl | rfl | rfl | rfl | rfl
  · exact fun _ e => by cases e
  · exact fun _ e => by cases e
  · exact fun _ e => by cases e
  · exact fun _ e => by cases e
  · exact fun _ e => by cases e
  · exact fun _ e => by cases e
  · exact fun _ e => by cases e
  · exact h7
def TopsRel (w : World) (g o : Nat) (l : List UInt8) (od nx : Int) (v1 v7 : Value) (i : Value) (wr : World) : Prop :=
  ∃ (k : Nat) (vs : List Int) (r : List UInt8), k ≤ 4 ∧ i = .int .i64 (k : Int) ∧ prep pnum k l = some (vs, r) ∧ HpMemR w g r o wr (tcs od nx v1 v7 vs (4 - k))
end Go.Proofs.YtlnmmklpccppmaaGreatDoor
