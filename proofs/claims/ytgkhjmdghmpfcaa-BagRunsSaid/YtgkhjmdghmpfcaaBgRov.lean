/-
  The statement's over: contract.
-/
import Derived.Test.YtgkhjmdghmpfcaaBgOv
namespace Go.Proofs.Ytgkhjmdghmpfcaa
open Go.RowKit
/-- What is written over: the row's block and its entries'. -/
def oX (v : Value) (es : List Value) : Nat → Prop := fun k => v.ownBlock = some k ∨ ∃ e ∈ es, e.ownBlock = some k
def OvPost (w : World) (base : Nat) (v : Value) (es : List Value) (w' : World) : Prop := ∃ l' : List (Ms × Value), l'.map (·.2) = es ∧ (∀ q ∈ l', q.1.es.length ≤ 1000) ∧ OwnMs w' base v l' ∧ Oth (oX v es) w w'
def OvRel (w : World) (base : Nat) (v : Value) (es : List Value) (i : Value) (wr : World) : Prop := ∃ k : Nat, k ≤ es.length ∧ i = .int .i64 (k : Int) ∧ OvPost w base v es wr
def OvIn (w : World) (base : Nat) (v : Value) (es : List Value) (k K : Nat) (e i : Value) (wr : World) : Prop := ∃ (j : Nat) (l' : List (Ms × Value)) (q : Ms × Value), j ≤ K ∧ i = .int .i64 (j : Int) ∧ l'.map (·.2) = es ∧ (∀ q ∈ l', q.1.es.length ≤ 1000) ∧ l'[k]? = some q ∧ q.2 = e ∧ q.1.es.length = K ∧ OwnMs wr base v l' ∧ Oth (oX v es) w wr
theorem snd_set {l : List (Ms × Value)} {k : Nat} {q : Ms × Value} (h : l[k]? = some q) (m : Ms) : (l.set k (m, q.2)).map (·.2) = l.map (·.2) := by
  refine List.ext_getElem? fun j => ?_
  rw [List.getElem?_map, List.getElem?_map, List.getElem?_set]
  by_cases e : k = j
  · subst e
    obtain ⟨hk, e⟩ := List.getElem?_eq_some_iff.1 h
    simp [hk, e]
  · rw [if_neg e]
theorem snd_upd (b j : Nat) (l : List (Ms × Value)) : (l.map (upd b j)).map (·.2) = l.map (·.2) := by
  rw [List.map_map]
  congr 1
  funext q
  exact upd_snd b j q
theorem own_some {w : World} {base K n c : Nat} {U : TypeId} {A : Option Addr} {xs : List Value} (h : w.ownsRow base U K (.slice A n c) n xs) (hn : 0 < n) : ∃ g, A = some ⟨g, 0, none⟩ ∧ base ≤ g := by
  rcases h.2 with ⟨e, h0⟩ | ⟨g, cap, cur, e, hg, _⟩
  · omega
  · injection e with e
    exact ⟨g, e, hg⟩
set_option maxRecDepth 20000 in
set_option maxHeartbeats 2000000 in
theorem over_any {w : World} {base : Nat} {v : Value} {l : List (Ms × Value)} (h : OwnMs w base v l) (hn : l.length ≤ 100000) (hes : ∀ q ∈ l, q.1.es.length ≤ 1000) :
    Calls Try.prog 15 #[v] w fun e w' => e = .returned (.tuple #[]) ∧ OvPost w base v (l.map (·.2)) w' := by
  obtain ⟨A, c, rfl, hc, -, -⟩ := h.rd
  have hS : OvPost w base (.slice A l.length c) (l.map (·.2)) w := ⟨l, rfl, hes, h, Oth.refl _ _⟩
  have HS := Lib.hid hS
  clear h hS hes
  have hle : (l.map (·.2)).length = l.length := List.length_map _
  generalize l.map (·.2) = es at *
  generalize l.length = n at *
  go_enter Try.func15, Try.ntmps15
  go_wp2_with fail
  go_loopw [2] (OvRel w base (.slice A n c) es) (fun i _ => n - (Go.RowKit.intOf i).toNat)
  case atStart => exact ⟨0, Nat.zero_le _, rfl, HS.out⟩
  case round =>
    obtain ⟨k, hk, rfl, l', hes', hsm, hO, ho⟩ := hrel
    rw [hle] at hk
    have hl' : l'.length = n := by have := congrArg List.length hes'; rw [List.length_map, hle] at this; exact this
    by_cases hlt : k < n
    · have hrow := hO.row
      rw [hl'] at hrow
      obtain ⟨g, rfl, hbg⟩ := own_some hrow (by omega)
      have hg : l'[k]? = some l'[k] := List.getElem?_eq_getElem (by omega)
      generalize l'[k] = q at hg
      have hg' := hg
      have hO2 := hO.num hg
      have hE := hO.ents q (List.mem_of_getElem? hg)
      have c5 : wr.cell? ⟨g, k * 23 + 5, none⟩ = some (.int .i64 q.1.n) := by
        rw [World.ownsRow.cellAt hrow _ (by omega)]
        exact fm_get mcc_len hg rfl
      have f5 : wr.frozen? ⟨g, k * 23 + 5, none⟩ = false := World.ownsRow.frozenAt hrow _
      have ho2 : Oth (oX (.slice (some ⟨g, 0, none⟩) n c) es) w (wr.setCell ⟨g, k * 23 + 5, none⟩ (.int .i64 (-77))) := ho.set (.inl rfl) _ _
      have HIn := Lib.hid (show OvIn w base (.slice (some ⟨g, 0, none⟩) n c) es k q.1.es.length q.2 (.int .i64 ((0 : Nat) : Int)) (wr.setCell ⟨g, k * 23 + 5, none⟩ (.int .i64 (-77))) from
        ⟨0, _, ({ q.1 with n := -77 }, q.2), Nat.zero_le _, rfl, by rw [snd_set hg, hes'], fun p hp => by
          rcases List.mem_or_eq_of_mem_set hp with h' | rfl
          · exact hsm p h'
          · exact hsm q (List.mem_of_getElem? hg), by rw [List.getElem?_set_self (by omega)], rfl, rfl, hO2, ho2⟩)
      have hki : (k : Int) < (n : Int) := by omega
      have hev : ∃ B cb, q.2 = .slice B q.1.es.length cb := by obtain ⟨B, cb, e, _⟩ := hE.rd; exact ⟨B, cb, e⟩
      clear hO2 ho2 hE hO ho hg hrow
      obtain ⟨B, cb, hev⟩ := hev
      rw [hev] at HIn
      have hKK := hsm q (List.mem_of_getElem? hg')
      generalize q.1.es.length = K at HIn hev hKK
      generalize hW0 : wr.setCell ⟨g, k * 23 + 5, none⟩ (.int .i64 (-77)) = W0 at HIn
      go_upto_region 4 with (fail)
      try simp only [hW0]
      clear hW0 c5 f5
      go_wp2_with fail
      go_loopw [3] (OvIn w base (.slice (some ⟨g, 0, none⟩) n c) es k K (.slice B K cb)) (fun i _ => K - (Go.RowKit.intOf i).toNat)
      case atStart => exact HIn.out
      case round =>
        obtain ⟨j, l2, q2, hj, rfl, hes2, hs2, hq2, he2, hK2, hO2, ho2⟩ := hrel
        have hl2 : l2.length = n := by have := congrArg List.length hes2; rw [List.length_map, hle] at this; exact this
        have hrow := hO2.row
        rw [hl2] at hrow
        have c8 : wr.cell? ⟨g, k * 23 + 8, none⟩ = some (.slice B K cb) := by
          rw [World.ownsRow.cellAt hrow _ (by omega), ← he2]
          exact fm_get mcc_len hq2 rfl
        have hE := hO2.ents q2 (List.mem_of_getElem? hq2)
        by_cases hjt : j < K
        · have hE' := hE
          unfold OwnE at hE'
          rw [he2, hK2] at hE'
          obtain ⟨b, rfl, hbb⟩ := own_some hE' (by omega)
          have hx : q2.1.es[j]? = some q2.1.es[j] := List.getElem?_eq_getElem (by omega)
          generalize q2.1.es[j] = x at hx
          have c0 : wr.cell? ⟨b, j * 11, none⟩ = some (.int .i64 x.n) := by
            have := fm_get ec_len hx (i := 0) (u := .int .i64 x.n) rfl
            rw [World.ownsRow.cellAt hE' _ (by omega)]
            exact this
          have f0 : wr.frozen? ⟨b, j * 11, none⟩ = false := World.ownsRow.frozenAt hE' _
          have HN := Lib.hid (show OvIn w base (.slice (some ⟨g, 0, none⟩) n c) es k K (.slice (some ⟨b, 0, none⟩) K cb) (.int .i64 ((j + 1 : Nat) : Int)) (wr.setCell ⟨b, j * 11, none⟩ (.int .i64 (-77))) from
            ⟨j + 1, l2.map (upd b j), upd b j q2, by omega, rfl, by rw [snd_upd, hes2], fun p hp => by
              obtain ⟨p', hp', rfl⟩ := List.mem_map.1 hp
              rw [upd_len]
              exact hs2 p' hp', by rw [List.getElem?_map, hq2]; rfl, by rw [upd_snd, he2], by rw [upd_len, hK2], hO2.ent j (List.mem_of_getElem? hq2) (by rw [he2]; rfl), ho2.set (.inr ⟨q2.2, hes2 ▸ List.mem_map_of_mem (List.mem_of_getElem? hq2), by rw [he2]; rfl⟩) _ _⟩)
          have hji : (j : Int) < (K : Int) := by omega
          have hKs : K ≤ 1000 := hKK
          clear hO2 ho2 hE hE' hrow hx hq2 hl2
          go_wp2
          go_roundw
          case rel => exact HN.out
          case measure => simp [Go.RowKit.intOf]; omega
        · obtain rfl : j = K := by omega
          have HP := Lib.hid (show OvPost w base (.slice (some ⟨g, 0, none⟩) n c) es wr from ⟨l2, hes2, hs2, hO2, ho2⟩)
          clear hO2 ho2 hE hrow hq2 hl2 hjt
          go_wp2
          go_roundw
          case rel => exact ⟨k + 1, by rw [hle]; omega, by go_num, HP.out⟩
          case measure => simp [Go.RowKit.intOf]; omega
    · have HP := Lib.hid (show OvPost w base (.slice A n c) es wr from ⟨l', hes', hsm, hO, ho⟩)
      clear hO ho
      obtain rfl : k = n := by omega
      go_wp2
      first | go_end0 | refine bodyPost_none rfl ?_
      exact ⟨rfl, HP.out⟩
end Go.Proofs.Ytgkhjmdghmpfcaa
