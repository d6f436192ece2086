/-
  Entries, messages and calls of a bag that came in, as a row's frame opens them. Plain lemmas.
-/
import Derived.Test.YtgkhjmdghmpfcaaBgMem
import Derived.Deep.Slices
import Derived.Lib.SmallJoins
import Derived.ChangeSame
namespace Go.Proofs.Ytgkhjmdghmpfcaa
open Go.ChangeShapes Go.WideShapes Go.Deep Go.Joins Go.RowKit

section
variable {H : Type} {enc : TypeId × Value → H} {w : World}
theorem fld_open {P : Program} {b0 : Nat} {sp : Nat → Bool} {hd : Bool} {t : TypeId} {fs : Array Field} {cs : List Value} {fuel : Nat} {x : DataW H × List MemPlace} (ht : P.underlying t = some (.struct fs)) (h : DataW.trod enc P w b0 sp hd fuel t cs = some x) {i : Nat} {f : Field} (hf : fs[i]? = some f) {T : TypeId} {o k : Nat} (hT : f.type = T) (ho : f.offset = o) (hk : P.cellsOf T = k) :
    ∃ n y, DataW.trod enc P w b0 sp hd n T ((cs.drop o).take k) = some y := by
  subst hT ho hk
  obtain ⟨xs, n, _, _, _, hxl, hg⟩ := DataW.trod_struct ht h
  have hi : i < fs.size := (Array.getElem?_eq_some_iff.1 hf).1
  exact ⟨n, xs[i]'(by omega), by rw [hg i f hf, List.getElem?_eq_getElem]⟩
theorem len_open {P : Program} {b0 : Nat} {sp : Nat → Bool} {hd : Bool} {t : TypeId} {fs : Array Field} {cs : List Value} {fuel : Nat} {x : DataW H × List MemPlace} (ht : P.underlying t = some (.struct fs)) (h : DataW.trod enc P w b0 sp hd fuel t cs = some x) : cs.length = P.cellsOf t := by
  obtain ⟨xs, n, _, _, hl, _, _⟩ := DataW.trod_struct ht h
  exact hl
theorem get_open {cs : List Value} {o : Nat} {v : Value} (h : (cs.drop o).take 1 = [v]) : cs[o]? = some v := by
  have h1 : ((cs.drop o).take 1)[0]? = some v := by rw [h]; rfl
  rw [List.getElem?_take, if_pos (by omega), List.getElem?_drop] at h1
  simpa using h1
theorem gets_open {cs vs : List Value} {o n : Nat} (h : (cs.drop o).take n = vs) {j : Nat} {v : Value} (hv : vs[j]? = some v) : cs[o + j]? = some v := by
  rw [← h, List.getElem?_take] at hv
  split at hv
  · rw [List.getElem?_drop] at hv
    exact hv
  · cases hv
/-- A slice of structs came in. -/
theorem rows_of {α : Type} {f : α → List Value} {K : Nat} (hf : ∀ x, (f x).length = K) (hK : 0 < K) {Ok : α → Prop} {t e : TypeId} (ht : Try.prog.underlying t = some (.slice e)) (hc : Try.prog.cellsOf e = K)
    (hel : ∀ {cs : List Value} {fuel : Nat} {x : DataW H × List MemPlace}, DataW.trod enc Try.prog w 0 (fun _ => true) true fuel e cs = some x → ∃ y, cs = f y ∧ Ok y) {A : Option Addr} {len cap fuel : Nat} {x : DataW H × List MemPlace}
    (h : DataW.trod enc Try.prog w 0 (fun _ => true) true fuel t [.slice A len cap] = some x) : ∃ l : List α, l.length = len ∧ RdC w A len K (l.flatMap f) ∧ (∀ y ∈ l, Ok y) ∧ len ≤ cap := by
  rcases open_slice ht h with ⟨hcs, _⟩ | ⟨a, len', cap', m, n, D, Pl, hcs, _, hl, _, hm, _, hi⟩
  · simp at hcs
    obtain ⟨rfl, rfl, rfl⟩ := hcs
    exact ⟨[], rfl, RdC.nil, (fun y hy => by cases hy), Nat.le_refl _⟩
  · simp at hcs
    obtain ⟨rfl, rfl, rfl⟩ := hcs
    simp only [if_true] at hm
    subst hm
    have key : ∀ i, i < m → ∃ y, Ok y ∧ ∀ (j : Nat) (u : Value), (f y)[j]? = some u → w.cell? ((a.add (i * K)).add j) = some u := fun i hlt => by
      obtain ⟨cs, hcc, ht'⟩ := hi i hlt
      rw [hc] at hcc
      obtain ⟨_, hcl, hat⟩ := World.cells?_some hcc
      obtain ⟨y, rfl, hy⟩ := hel ht'
      refine ⟨y, hy, fun j u hu => ?_⟩
      have hj : j < K := by rw [← hf y]; exact (List.getElem?_eq_some_iff.1 hu).1
      have z := hat j hj
      rw [hu] at z
      simpa [Addr.add] using z
    have key2 : ∀ k, k ≤ m → ∃ l : List α, l.length = k ∧ (∀ y ∈ l, Ok y) ∧ ∀ i y, l[i]? = some y → ∀ (j : Nat) (u : Value), (f y)[j]? = some u → w.cell? ((a.add (i * K)).add j) = some u := by
      intro k
      induction k with
      | zero => intro _; exact ⟨[], rfl, (fun y hy => by cases hy), fun i y hy => by simp at hy⟩
      | succ k ih =>
        intro hk
        obtain ⟨l, h1, h2, h3⟩ := ih (by omega)
        obtain ⟨y, hy, hyc⟩ := key k (by omega)
        refine ⟨l ++ [y], by simp [h1], fun z hz => ?_, fun i z hz => ?_⟩
        · rcases List.mem_append.1 hz with q | q
          · exact h2 z q
          · rw [List.mem_singleton.1 q]; exact hy
        · by_cases hik : i < k
          · rw [List.getElem?_append_left (by omega)] at hz
            exact h3 i z hz
          · have hlt := (List.getElem?_eq_some_iff.1 hz).1
            simp [h1] at hlt
            obtain rfl : i = k := by omega
            rw [List.getElem?_append_right (by omega), h1, Nat.sub_self] at hz
            simp at hz
            subst hz
            exact hyc
    obtain ⟨l, h1, h2, h3⟩ := key2 len hl
    refine ⟨l, h1, ⟨by rw [fm_len hf, h1], fun h0 => ?_⟩, h2, hl⟩
    obtain ⟨b, off, spot⟩ := a
    have hg := List.getElem?_eq_getElem (show 0 < l.length by omega)
    have hf0 : 0 < (f l[0]).length := by rw [hf]; exact hK
    have hk := h3 0 _ hg 0 _ (List.getElem?_eq_getElem hf0)
    have hspot : spot = none := by simpa [Addr.add] using World.cell?_spot hk
    subst hspot
    have hlt : b < w.heap.size := by
      have := World.block_lt_of_cell? w _ hk
      simpa [Addr.add] using this
    refine ⟨b, off, rfl, hlt, fun j u hu => ?_⟩
    obtain ⟨y, hy, hu'⟩ := fm_at hf hK hu
    have := h3 _ y hy _ u hu'
    simp only [add_plain] at this
    rw [show off + j = off + j / K * K + j % K by rw [Nat.add_assoc, Nat.div_add_mod']]
    exact this
/-- Seven cells that came in are an operation. -/
theorem op7c_open {cs : List Value} {fuel : Nat} {x : DataW H × List MemPlace} (h : DataW.trod enc Try.prog w 0 (fun _ => true) true fuel 43 cs = some x) : ∃ y : Op7, cs = opc y := by
  have hl : cs.length = 7 := (len_open Try.underlying43 h).trans (by kernel_rfl)
  obtain ⟨_, _, g0⟩ := fld_open Try.underlying43 h (i := 0) rfl (T := 41) (o := 0) (k := 1) rfl rfl (by kernel_rfl)
  obtain ⟨z0, c0, _, _⟩ := DataW.trod_int Try.underlying41 g0
  have q0 := get_open c0
  obtain ⟨_, _, g1⟩ := fld_open Try.underlying43 h (i := 1) rfl (T := 3) (o := 1) (k := 1) rfl rfl (by kernel_rfl)
  obtain ⟨z1, c1, _, _⟩ := DataW.trod_int Try.underlying3 g1
  have q1 := get_open c1
  obtain ⟨_, _, g2⟩ := fld_open Try.underlying43 h (i := 2) rfl (T := 3) (o := 2) (k := 1) rfl rfl (by kernel_rfl)
  obtain ⟨z2, c2, _, _⟩ := DataW.trod_int Try.underlying3 g2
  have q2 := get_open c2
  obtain ⟨_, _, g3⟩ := fld_open Try.underlying43 h (i := 3) rfl (T := 3) (o := 3) (k := 1) rfl rfl (by kernel_rfl)
  obtain ⟨z3, c3, _, _⟩ := DataW.trod_int Try.underlying3 g3
  have q3 := get_open c3
  obtain ⟨_, _, g4⟩ := fld_open Try.underlying43 h (i := 4) rfl (T := 3) (o := 4) (k := 1) rfl rfl (by kernel_rfl)
  obtain ⟨z4, c4, _, _⟩ := DataW.trod_int Try.underlying3 g4
  have q4 := get_open c4
  obtain ⟨_, _, g5⟩ := fld_open Try.underlying43 h (i := 5) rfl (T := 3) (o := 5) (k := 1) rfl rfl (by kernel_rfl)
  obtain ⟨z5, c5, _, _⟩ := DataW.trod_int Try.underlying3 g5
  have q5 := get_open c5
  obtain ⟨_, _, g6⟩ := fld_open Try.underlying43 h (i := 6) rfl (T := 3) (o := 6) (k := 1) rfl rfl (by kernel_rfl)
  obtain ⟨z6, c6, _, _⟩ := DataW.trod_int Try.underlying3 g6
  have q6 := get_open c6
  refine ⟨⟨z0, z1, z2, z3, z4, z5, z6⟩, List.ext_getElem? fun j => ?_⟩
  match j with
  | 0 => exact q0
  | 1 => exact q1
  | 2 => exact q2
  | 3 => exact q3
  | 4 => exact q4
  | 5 => exact q5
  | 6 => exact q6
  | j + 7 => rw [List.getElem?_eq_none (by omega), List.getElem?_eq_none (by simp [opc])]
/-- Eleven cells that came in are an entry. -/
theorem en_open {cs : List Value} {fuel : Nat} {x : DataW H × List MemPlace} (h : DataW.trod enc Try.prog w 0 (fun _ => true) true fuel 66 cs = some x) : ∃ y : En, cs = ec y ∧ True := by
  have hl : cs.length = 11 := (len_open Try.underlying66 h).trans (by kernel_rfl)
  obtain ⟨_, _, g0⟩ := fld_open Try.underlying66 h (i := 0) rfl (T := 3) (o := 0) (k := 1) rfl rfl (by kernel_rfl)
  obtain ⟨z0, c0, _, _⟩ := DataW.trod_int Try.underlying3 g0
  have q0 := get_open c0
  obtain ⟨_, _, g1⟩ := fld_open Try.underlying66 h (i := 1) rfl (T := 3) (o := 1) (k := 1) rfl rfl (by kernel_rfl)
  obtain ⟨z1, c1, _, _⟩ := DataW.trod_int Try.underlying3 g1
  have q1 := get_open c1
  obtain ⟨_, _, g2⟩ := fld_open Try.underlying66 h (i := 2) rfl (T := 3) (o := 2) (k := 1) rfl rfl (by kernel_rfl)
  obtain ⟨z2, c2, _, _⟩ := DataW.trod_int Try.underlying3 g2
  have q2 := get_open c2
  obtain ⟨_, _, g3⟩ := fld_open Try.underlying66 h (i := 3) rfl (T := 3) (o := 3) (k := 1) rfl rfl (by kernel_rfl)
  obtain ⟨z3, c3, _, _⟩ := DataW.trod_int Try.underlying3 g3
  have q3 := get_open c3
  obtain ⟨_, _, g4⟩ := fld_open Try.underlying66 h (i := 4) rfl (T := 43) (o := 4) (k := 7) rfl rfl (by kernel_rfl)
  obtain ⟨y4, c4⟩ := op7c_open g4
  refine ⟨⟨z0, z1, z2, z3, y4⟩, List.ext_getElem? fun j => ?_, trivial⟩
  match j with
  | 0 => exact q0
  | 1 => exact q1
  | 2 => exact q2
  | 3 => exact q3
  | 4 => exact gets_open c4 (j := 0) rfl
  | 5 => exact gets_open c4 (j := 1) rfl
  | 6 => exact gets_open c4 (j := 2) rfl
  | 7 => exact gets_open c4 (j := 3) rfl
  | 8 => exact gets_open c4 (j := 4) rfl
  | 9 => exact gets_open c4 (j := 5) rfl
  | 10 => exact gets_open c4 (j := 6) rfl
  | j + 11 => rw [List.getElem?_eq_none (by omega), List.getElem?_eq_none (by simp [ec])]
theorem ens_open {A : Option Addr} {len cap fuel : Nat} {x : DataW H × List MemPlace} (h : DataW.trod enc Try.prog w 0 (fun _ => true) true fuel 40 [.slice A len cap] = some x) : ∃ l, RdE w A len l := by
  obtain ⟨l, h1, h2, _, _⟩ := rows_of ec_len (by omega) Try.underlying40 (by kernel_rfl) (fun h => en_open h) h
  exact ⟨l, h1, h2⟩
theorem slice_form {t e : TypeId} (ht : Try.prog.underlying t = some (.slice e)) {cs : List Value} {fuel : Nat} {x : DataW H × List MemPlace} (h : DataW.trod enc Try.prog w 0 (fun _ => true) true fuel t cs = some x) : ∃ A n c, cs = [.slice A n c] := by
  rcases open_slice ht h with ⟨hcs, _⟩ | ⟨a, len', cap', _, _, _, _, hcs, _⟩
  · exact ⟨_, _, _, hcs⟩
  · exact ⟨_, _, _, hcs⟩
/-- Twenty-three cells that came in are a message. -/
theorem ms_open {cs : List Value} {fuel : Nat} {x : DataW H × List MemPlace} (h : DataW.trod enc Try.prog w 0 (fun _ => true) true fuel 47 cs = some x) : ∃ p : Ms × Value, cs = mcc p ∧ MsgR w p := by
  have hl : cs.length = 23 := (len_open Try.underlying47 h).trans (by kernel_rfl)
  obtain ⟨_, _, g0⟩ := fld_open Try.underlying47 h (i := 0) rfl (T := 39) (o := 0) (k := 1) rfl rfl (by kernel_rfl)
  obtain ⟨z0, c0, _, _⟩ := DataW.trod_int Try.underlying39 g0
  have q0 := get_open c0
  obtain ⟨_, _, g1⟩ := fld_open Try.underlying47 h (i := 1) rfl (T := 3) (o := 1) (k := 1) rfl rfl (by kernel_rfl)
  obtain ⟨z1, c1, _, _⟩ := DataW.trod_int Try.underlying3 g1
  have q1 := get_open c1
  obtain ⟨_, _, g2⟩ := fld_open Try.underlying47 h (i := 2) rfl (T := 3) (o := 2) (k := 1) rfl rfl (by kernel_rfl)
  obtain ⟨z2, c2, _, _⟩ := DataW.trod_int Try.underlying3 g2
  have q2 := get_open c2
  obtain ⟨_, _, g3⟩ := fld_open Try.underlying47 h (i := 3) rfl (T := 3) (o := 3) (k := 1) rfl rfl (by kernel_rfl)
  obtain ⟨z3, c3, _, _⟩ := DataW.trod_int Try.underlying3 g3
  have q3 := get_open c3
  obtain ⟨_, _, g4⟩ := fld_open Try.underlying47 h (i := 4) rfl (T := 3) (o := 4) (k := 1) rfl rfl (by kernel_rfl)
  obtain ⟨z4, c4, _, _⟩ := DataW.trod_int Try.underlying3 g4
  have q4 := get_open c4
  obtain ⟨_, _, g5⟩ := fld_open Try.underlying47 h (i := 5) rfl (T := 3) (o := 5) (k := 1) rfl rfl (by kernel_rfl)
  obtain ⟨z5, c5, _, _⟩ := DataW.trod_int Try.underlying3 g5
  have q5 := get_open c5
  obtain ⟨_, _, g6⟩ := fld_open Try.underlying47 h (i := 6) rfl (T := 3) (o := 6) (k := 1) rfl rfl (by kernel_rfl)
  obtain ⟨z6, c6, _, _⟩ := DataW.trod_int Try.underlying3 g6
  have q6 := get_open c6
  obtain ⟨_, _, g7⟩ := fld_open Try.underlying47 h (i := 7) rfl (T := 3) (o := 7) (k := 1) rfl rfl (by kernel_rfl)
  obtain ⟨z7, c7, _, _⟩ := DataW.trod_int Try.underlying3 g7
  have q7 := get_open c7
  obtain ⟨_, _, g8⟩ := fld_open Try.underlying47 h (i := 8) rfl (T := 40) (o := 8) (k := 1) rfl rfl (by kernel_rfl)
  obtain ⟨A, n, c, c8⟩ := slice_form Try.underlying40 g8
  have q8 := get_open c8
  rw [c8] at g8
  obtain ⟨l, hE⟩ := ens_open g8
  obtain ⟨_, _, g9⟩ := fld_open Try.underlying47 h (i := 9) rfl (T := 3) (o := 9) (k := 1) rfl rfl (by kernel_rfl)
  obtain ⟨z9, c9, _, _⟩ := DataW.trod_int Try.underlying3 g9
  have q9 := get_open c9
  obtain ⟨_, _, g10⟩ := fld_open Try.underlying47 h (i := 10) rfl (T := 3) (o := 10) (k := 1) rfl rfl (by kernel_rfl)
  obtain ⟨z10, c10, _, _⟩ := DataW.trod_int Try.underlying3 g10
  have q10 := get_open c10
  obtain ⟨_, _, g11⟩ := fld_open Try.underlying47 h (i := 11) rfl (T := 9) (o := 11) (k := 1) rfl rfl (by kernel_rfl)
  obtain ⟨z11, c11, _, _⟩ := DataW.trod_string Try.underlying9 g11
  have q11 := get_open c11
  obtain ⟨_, _, g12⟩ := fld_open Try.underlying47 h (i := 12) rfl (T := 3) (o := 12) (k := 1) rfl rfl (by kernel_rfl)
  obtain ⟨z12, c12, _, _⟩ := DataW.trod_int Try.underlying3 g12
  have q12 := get_open c12
  obtain ⟨_, _, g13⟩ := fld_open Try.underlying47 h (i := 13) rfl (T := 43) (o := 13) (k := 7) rfl rfl (by kernel_rfl)
  obtain ⟨y13, c13⟩ := op7c_open g13
  obtain ⟨_, _, g14⟩ := fld_open Try.underlying47 h (i := 14) rfl (T := 45) (o := 20) (k := 2) rfl rfl (by kernel_rfl)
  obtain ⟨_, _, k0⟩ := fld_open Try.underlying45 g14 (i := 0) rfl (T := 25) (o := 0) (k := 1) rfl rfl (by kernel_rfl)
  obtain ⟨z20, c20, _, _⟩ := DataW.trod_int Try.underlying25 k0
  obtain ⟨_, _, k1⟩ := fld_open Try.underlying45 g14 (i := 1) rfl (T := 3) (o := 1) (k := 1) rfl rfl (by kernel_rfl)
  obtain ⟨z21, c21, _, _⟩ := DataW.trod_int Try.underlying3 k1
  have q20 : cs[20 + 0]? = some (.int .i64 z20) := gets_open (n := 2) rfl (get_open c20)
  have q21 : cs[20 + 1]? = some (.int .i64 z21) := gets_open (n := 2) rfl (get_open c21)
  obtain ⟨_, _, g15⟩ := fld_open Try.underlying47 h (i := 15) rfl (T := 4) (o := 22) (k := 1) rfl rfl (by kernel_rfl)
  obtain ⟨z22, c22, _⟩ := DataW.trod_bool Try.underlying4 g15
  have q22 := get_open c22
  have hn := hE.len
  subst hn
  refine ⟨(⟨z0, z1, z2, z3, z4, z5, z6, z7, l, z9, z10, z11, z12, y13, z20, z21, z22⟩, .slice A l.length c), List.ext_getElem? fun j => ?_, ⟨A, c, rfl, hE⟩⟩
  match j with
  | 0 => exact q0
  | 1 => exact q1
  | 2 => exact q2
  | 3 => exact q3
  | 4 => exact q4
  | 5 => exact q5
  | 6 => exact q6
  | 7 => exact q7
  | 8 => exact q8
  | 9 => exact q9
  | 10 => exact q10
  | 11 => exact q11
  | 12 => exact q12
  | 13 => exact gets_open c13 (j := 0) rfl
  | 14 => exact gets_open c13 (j := 1) rfl
  | 15 => exact gets_open c13 (j := 2) rfl
  | 16 => exact gets_open c13 (j := 3) rfl
  | 17 => exact gets_open c13 (j := 4) rfl
  | 18 => exact gets_open c13 (j := 5) rfl
  | 19 => exact gets_open c13 (j := 6) rfl
  | 20 => exact q20
  | 21 => exact q21
  | 22 => exact q22
  | j + 23 => rw [List.getElem?_eq_none (by omega), List.getElem?_eq_none (by simp [mcc, mcs])]
/-- A slice of messages that came in. -/
def IsMs (w : World) (A : Option Addr) (n : Nat) : Prop := ∃ l, RdM w A n l
theorem mss_open {A : Option Addr} {len cap fuel : Nat} {x : DataW H × List MemPlace} (h : DataW.trod enc Try.prog w 0 (fun _ => true) true fuel 29 [.slice A len cap] = some x) : IsMs w A len := by
  obtain ⟨l, h1, h2, h3, _⟩ := rows_of mcc_len (by omega) Try.underlying29 (by kernel_rfl) (fun h => ms_open h) h
  exact ⟨l, h1, h2, h3⟩
end
end Go.Proofs.Ytgkhjmdghmpfcaa
