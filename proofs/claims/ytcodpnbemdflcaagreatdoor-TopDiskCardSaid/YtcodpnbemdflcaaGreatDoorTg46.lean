/-
  Package pheap: imaged: the heap of the image with which records begin: contract.
  Package pheap: redone: what an operation's record makes of a heap: contract, for one record or none.
  Package pheap: told: the heap that a log's records tell: contracts, for a new log, and for an image and what came behind it.
-/
import Derived.Deep.CutBlock
import Derived.Deep.DeepCutAuto
import Derived.Deep.RegionHeld3
import Derived.Deep.RegionLaw
import Derived.Test.YtcodpnbemdflcaaGreatDoorTg44
import Derived.Test.YtcodpnbemdflcaaGreatDoorTg43
import Derived.Test.YtcodpnbemdflcaaGreatDoorTg45
import Derived.Test.YtcodpnbemdflcaaGreatDoorTg34
import Derived.Test.YtcodpnbemdflcaaGreatDoorTg32
import Derived.Test.YtcodpnbemdflcaaGreatDoorTg26
namespace Go.Proofs.YtcodpnbemdflcaaGreatDoor
open Go.RowKit
theorem signed_at {c:List (List UInt8)} {G k:Nat} (hc:c.length=G+1) (hk:k < G) : ∃ g,c[k]? = some g∧(signed c)[k]? = some (112 :: g):=by
 refine ⟨c[k]'(by omega),List.getElem?_eq_getElem _,?_⟩
 unfold signed
 rw [List.getElem?_append_left (by simp;omega),List.getElem?_map]
 rw [List.getElem?_eq_getElem (by simp;omega)]
 simp
theorem signed_last {c:List (List UInt8)} {G:Nat} (hc:c.length=G+1) : ∃ g,c[G]? = some g∧(signed c)[G]? = some (108 :: g):=by
 refine ⟨c[G]'(by omega),List.getElem?_eq_getElem _,?_⟩
 unfold signed
 rw [List.getElem?_append_right (by simp;omega)]
 have:c.getLast? = some (c[G]'(by omega)):=by rw [List.getLast?_eq_getElem?,show c.length - 1=G by omega];exact List.getElem?_eq_getElem _
 rw [this]
 simp [hc]
theorem flat_succ {c:List (List UInt8)} {k:Nat} {g:List UInt8} (h:c[k]? = some g):(c.take (k+1)).flatten=(c.take k).flatten++g:=by
 rw [List.take_add_one,h]
 simp
set_option maxRecDepth 100000 in
set_option maxHeartbeats 1000000 in
theorem string_kept {w:World} {b base:Nat} {l:List UInt8} (h:BdAt w b base l) (h0:l ≠ []) (hl:l.length≤1000000) :
  Calls Tryz.prog 113 #[.pointer (some ⟨b,0,none⟩)] w fun e w'=>e = .returned (.string ⟨l.toArray⟩)∧Below base w w' ∧ ∀ (x:Nat) (u:TypeId) (cs:List Value),Whole w x u cs→u≠5→Whole w' x u cs:=by
 obtain ⟨a,v,h1,h2,h3,h4⟩:=h
 have hpos:0 < l.length:=by
  cases l with
  | nil=>exact absurd rfl h0
  | cons x r=>simp
 obtain ⟨A,c,hv,hc,hm,hr⟩:=h3.shape
 have hg : ∃ g cap cur,v = .slice (some ⟨g,0,none⟩) l.length cap∧base≤g∧w.heap[g]? = some (.cells cur 5 (0,0))∧l.length≤cap∧cap≤maxLen∧cur.size=cap*1:=by
  rcases h3.2 with ⟨_,hz⟩ | ⟨g,cap,cur,hv,r1,r2,r3,r4,r5,_⟩
  ·omega
  ·exact ⟨g,cap,cur,hv,r1,r2,r3,r4,r5⟩
 obtain ⟨g,cap,cur,hv2,hbg,hgb,hnc,hcm,hcs⟩:=hg
 subst hv2
 have c1:w.drew.cell? ⟨b,1,none⟩=some (.slice (some ⟨g,0,none⟩) l.length cap):=h1.cell 1
 have hSD:(Builtin.unsafeSliceData_ #[93] 237 #[.slice (some ⟨g,0,none⟩) l.length cap]).run Tryz.prog w.drew = .ok (.pointer (some ⟨g,0,none⟩)) w.drew :=
  Lib.run_unsafeSliceData_row _ _ _ _ _ _ (by omega)
 have hUS:(Builtin.unsafeString_ #[237,3] 9 #[.pointer (some ⟨g,0,none⟩), .int .i64 l.length]).run Tryz.prog w.drew = .ok (.string ⟨l.toArray⟩) (w.drew.freeze ⟨g,0,none⟩ l.length):=by
  refine Lib.run_unsafeString_row w.drew 237 3 9 5 Tryz.underlying237 (by kernel_rfl) g cur.size (by have hg':w.drew.heap[g]? = some (.cells cur 5 (0,0)):=hgb;simp [World.shape?,hg']) l h0 (by omega) (by unfold maxLen at hcm;omega) ?_
  intro j x hx
  have:=World.ownsRow.cells h3 (g:=g) rfl j (.int .u8 x.toNat) (by simp [bvs,bv,hx])
  exact this
 have hbelow:Below base w (w.drew.freeze ⟨g,0,none⟩ l.length):=Lib.below_freeze (Below.drew (Below.refl base w)) (p:=⟨g,0,none⟩) hbg _
 have hkeep : ∀ (x:Nat) (u:TypeId) (cs:List Value),Whole w x u cs→u≠5→Whole (w.drew.freeze ⟨g,0,none⟩ l.length) x u cs:=fun x u cs hw hu=>hw.keep (by
  have hne:x≠g:=fun e=>by
   subst e
   have:=(show w.heap[x]? = _ from hw).symm.trans hgb
   simp at this
   exact hu this.2
  show (w.drew.freeze ⟨g,0,none⟩ l.length).heap[x]? = _
  unfold World.freeze
  rw [if_neg (by omega)]
  simp only [Array.getElem?_modify]
  rw [if_neg (fun e=>hne e.symm)]
  rfl)
 have HB:=Lib.hid (And.intro hbelow hkeep)
 clear hbelow hkeep h1 h2 h3 h4 hr hv hgb hcs
 go_enter Tryz.func113,Tryz.ntmps113
 go_wp2
 go_region
 all_goals (go_wp2;go_ret;exact ⟨rfl,HB.out⟩)
theorem RdV.take {w:World} {A:Option Addr} {n k:Nat} {l:List Value} (h:RdV w A n l) (hk:k≤n):RdV w A k (l.take k) :=
 ⟨by rw [List.length_take,h.len];omega,fun hp=>by
  obtain ⟨b,off,e,hb,hc⟩:=h.at_ (by omega)
  refine ⟨b,off,e,hb,fun j x hx=>hc j x ?_⟩
  rw [List.getElem?_take] at hx
  split at hx
  ·exact hx
  ·cases hx⟩
theorem RdV.cutAt {w:World} {b o n k:Nat} {l:List Value} (h:RdV w (some ⟨b,o,none⟩) n l) (hk:k≤n):RdV w (some ⟨b,o+k,none⟩) (n - k) (l.drop k):=by
 refine ⟨by rw [List.length_drop,h.len],fun hn => ?_⟩
 obtain ⟨b',o',e,hb,hc⟩:=h.at_ (by omega)
 injection e with e
 injection e with e1 e2
 subst e1 e2
 refine ⟨_,_,rfl,hb,fun j x hx => ?_⟩
 rw [Nat.add_assoc]
 exact hc _ x (by rw [← hx,List.getElem?_drop])
def ImgPost (w0 w:World) (H:Hp) (rest:List (List UInt8)) (e:Ending) (w':World):Prop :=
 ∃ A c s os,e = .returned (.tuple #[hval H s, .slice A rest.length c, .bool true])∧OwnHp w' w.heap.size s os H∧RdV w0 A rest.length (svs rest)∧Below w.heap.size w w'
theorem results_ctt {fn:Func} {p q r:Tmp} (h:fn.results = #[.cell p 28, .tmp q, .tmp r]) (tmps:Array Value) (w:World) (kp:Nat) (hp:tmps.getD p undef = .pointer (some ⟨kp,0,none⟩)) {a0 a1 a2 a3 a4 a5 a6 a7:Value} (K:Whole w kp 28 [a0,a1,a2,a3,a4,a5,a6,a7]) :
  (results fn tmps).run Tryz.prog w = .ok (.tuple #[.agg #[a0,a1,a2,a3,a4,a5,a6,a7],tmps.getD q undef,tmps.getD r undef]) w:=by
 have u1:=Tryz.underlying28
 have z1:=Tryz.sizeOf28
 have i1:=Tryz.isAgg28
 have hp':tmps[p]?.getD undef = .pointer (some ⟨kp,0,none⟩):=by simpa using hp
 have c0:=K.cell 0
 have c1:=K.cell 1
 have c2:=K.cell 2
 have c3:=K.cell 3
 have c4:=K.cell 4
 have c5:=K.cell 5
 have c6:=K.cell 6
 have c7:=K.cell 7
 simp only [List.getElem?_cons_succ,List.getElem?_cons_zero] at c0 c1 c2 c3 c4 c5 c6 c7
 simp only [results,h]
 simp [hp',asAddr,loadVar]
 go_simp
def IgRel (w:World) (rb bb:Nat) (C:List (List UInt8)) (G:Nat) (i:Value) (wr:World):Prop :=
 ∃ k:Nat,k≤G∧i = .int .i64 (k:Int)∧BdAt wr bb w.heap.size (C.take k).flatten∧Whole wr rb 28 zcs∧Below w.heap.size w wr
theorem iflat_len {m:Nat} : ∀ (l:List (List UInt8)),(∀ g ∈ l,g.length≤m)→l.flatten.length≤m*l.length
 | [],_=>by simp
 | a :: t,h=>by
  have h1:=h a (by simp)
  have h2:=iflat_len t fun g hg=>h g (List.mem_cons_of_mem _ hg)
  rw [List.flatten_cons,List.length_append,List.length_cons,Nat.mul_add]
  omega
set_option maxRecDepth 100000 in
set_option maxHeartbeats 4000000 in
theorem imaged_any {A:Option Addr} {n c:Nat} {H:Hp} {rest:List (List UInt8)} {w0 w:World} (h0:RdV w0 A n (svs (hpcs H++rest))) (hb0:Below w0.heap.size w0 w) (hn:n≤1000) (hnc:n≤c) (hc:c≤maxLen) (hT:Tab w) (k:ImH H) (hx:H.nx≤65535) :
    Calls Tryz.prog 69 #[.slice A n c] w (ImgPost w0 w H rest) := by
  have H00 := Lib.hid h0
  have h := h0.below hb0
  clear h0 hb0
  obtain ⟨C, hC⟩ : ∃ C, C = grps 1023 (pkd (encH H)) := ⟨_, rfl⟩
  have hCl := pkd_pos (enc_pos H)
  have hC4 := pkd_heap k hx
  obtain ⟨G, hG⟩ : ∃ G, C.length = G + 1 := ⟨C.length - 1, by
    rw [hC, grps_length]
    unfold gcnt
    omega⟩
  have hG4 : G ≤ 4 := by
    rw [hC, grps_length] at hG
    unfold gcnt at hG
    omega
  have hR : hpcs H = signed C := by rw [hC]; rfl
  have hCm : ∀ g ∈ C, g.length ≤ 1023 := fun g hg => by rw [hC] at hg; exact grps_mem hg
  have hlen : n = (G + 1) + rest.length := by
    have := h.len
    rw [svs_length, List.length_append, hR, signed_length, hG] at this
    omega
  have KR := (Whole.new w #[.int .i64 0, .slice none 0 0, .int .i64 0, .int .i64 0, .int .i64 0, .int .i64 0, .int .i64 0, .slice none 0 0] 28).alloc (.cells #[.pointer none, .slice none 0 0] 168)
  have hB0 : Below w.heap.size w ((w.alloc (.cells #[.int .i64 0, .slice none 0 0, .int .i64 0, .int .i64 0, .int .i64 0, .int .i64 0, .int .i64 0, .slice none 0 0] 28)).alloc (.cells #[.pointer none, .slice none 0 0] 168)) := ((Below.refl _ w).alloc (Nat.le_refl _) _).alloc (by simp) _
  have hBd : BdAt ((w.alloc (.cells #[.int .i64 0, .slice none 0 0, .int .i64 0, .int .i64 0, .int .i64 0, .int .i64 0, .int .i64 0, .slice none 0 0] 28)).alloc (.cells #[.pointer none, .slice none 0 0] 168)) (w.heap.size + 1) w.heap.size [] := by
    have := Whole.new (w.alloc (.cells #[.int .i64 0, .slice none 0 0, .int .i64 0, .int .i64 0, .int .i64 0, .int .i64 0, .int .i64 0, .slice none 0 0] 28)) #[.pointer none, .slice none 0 0] 168
    rw [World.size_alloc] at this
    exact ⟨_, _, this, .inl rfl, Own.nil, by simp [Value.ownBlock]⟩
  have HH := Lib.hid h
  have HM := Lib.hid (And.intro hC (And.intro hG (And.intro hR (And.intro hCm hlen))))
  have HT := Lib.hid hT
  have HK := Lib.hid (And.intro k hx)
  have H0 := Lib.hid (And.intro KR (And.intro hB0 hBd))
  have Hc := Lib.hid (And.intro hnc hc)
  have hnG : G < n := by omega
  clear h hC hG hR hCm hlen hT k hx KR hB0 hBd hCl hC4 hnc hc
  go_enter Tryz.func69, Tryz.ntmps69
  go_wp2_with fail
  go_loopw [14] (IgRel w w.heap.size (w.heap.size + 1) C G) (fun i _ => n - (Go.RowKit.intOf i).toNat)
  case atStart => exact ⟨0, Nat.zero_le _, rfl, H0.out.2.2, H0.out.1, H0.out.2.1⟩
  case round =>
    obtain ⟨k, hk, rfl, hbd, hrb, hbel⟩ := hrel
    obtain ⟨hC, hG, hR, hCm, hlen⟩ := HM.out
    obtain ⟨b, o, x, rfl, hbb, hx, hcell⟩ := (HH.out.below hbel).cell (j := k) (by omega)
    have hlt : k < n := by omega
    have hfl : (C.take k).flatten.length ≤ 1023 * k := by
      have := iflat_len (m := 1023) (C.take k) fun g hg => hCm g (List.mem_of_mem_take hg)
      rw [List.length_take] at this
      have : min k C.length = k := by omega
      simp_all
    by_cases hkG : k < G
    · obtain ⟨g, hg1, hg2⟩ := signed_at hG hkG
      have hxs : x = .string ⟨(112 :: g).toArray⟩ := by
        rw [hR, svs, List.getElem?_map, List.getElem?_append_left (by rw [signed_length]; omega), hg2] at hx
        injection hx with hx
        exact hx.symm
      have hgl : g.length ≤ 1023 := hCm g (List.mem_of_getElem? hg1)
      have KC := fun W => cutPrefix_any 112 108 g W (by omega)
      have KT := fun W => trimPrefix_any 112 g W (by omega)
      rw [if_neg (by decide), decide_eq_false (by decide)] at KC
      have KW := writeString_any hbd hbel.size (by omega) ⟨g.toArray⟩ (by show _ + g.toArray.size ≤ _; rw [List.size_toArray]; omega)
      have hf := flat_succ hg1
      rw [show (ByteArray.mk g.toArray).data.toList = g by simp, ← hf] at KW
      rw [hxs] at hcell
      generalize ByteArray.mk (112 :: g).toArray = s1 at hcell KC KT
      generalize ByteArray.mk g.toArray = s2 at KT KW
      have H9 := Lib.hid (And.intro hrb hbel)
      clear hC hG hR hCm hlen hxs hx hg1 hg2 hfl hf hbd hrb hbel hgl
      go_wp2_with (first | (go_at_call 109; refine (KC _).mono ?_; rintro e w1 ⟨rfl, hw1⟩; subst hw1) | (go_at_call 114; refine (KT _).mono ?_; rintro e w1 ⟨rfl, hw1⟩; subst hw1) | (go_at_call 110; refine KW.mono ?_; rintro e w1 ⟨⟨v, rfl⟩, q1, q2, q3⟩; have HQ := Lib.hid (And.intro q1 (And.intro q2 q3)); clear q1 q2 q3))
      go_roundw
      case rel => exact ⟨k + 1, by omega, by go_num, HQ.out.1, HQ.out.2.2 _ _ _ H9.out.1 (by decide) (by omega), H9.out.2.trans HQ.out.2.1⟩
      case measure => simp [Go.RowKit.intOf]; omega
    · obtain rfl : k = G := by omega
      obtain ⟨g, hg1, hg2⟩ := signed_last hG
      have hxs : x = .string ⟨(108 :: g).toArray⟩ := by
        rw [hR, svs, List.getElem?_map, List.getElem?_append_left (by rw [signed_length]; omega), hg2] at hx
        injection hx with hx
        exact hx.symm
      have hgl : g.length ≤ 1023 := hCm g (List.mem_of_getElem? hg1)
      have KC := fun W => cutPrefix_any 108 108 g W (by omega)
      rw [if_pos rfl, decide_eq_true rfl] at KC
      have KW := writeString_any hbd hbel.size (by omega) ⟨g.toArray⟩ (by show _ + g.toArray.size ≤ _; rw [List.size_toArray]; omega)
      have hf : (C.take k).flatten ++ g = pkd (encH H) := by
        rw [← flat_succ hg1, List.take_of_length_le (by omega), hC]
        exact grps_flat (by decide) _ _ (Nat.le_refl _)
      rw [show (ByteArray.mk g.toArray).data.toList = g by simp, hf] at KW
      rw [hxs] at hcell
      generalize ByteArray.mk (108 :: g).toArray = s1 at hcell KC
      generalize ByteArray.mk g.toArray = s2 at KW KC
      obtain ⟨N, hN⟩ : ∃ N, (encH H).length = N := ⟨_, rfl⟩
      have hNl : N ≤ 65536 := by rw [← hN]; exact HK.out.1.size
      have hne : pkd (encH H) ≠ [] := fun e => by
        have := pkd_pos (enc_pos H)
        rw [e] at this
        simp at this
      have hpl : (pkd (encH H)).length ≤ 4092 := pkd_heap HK.out.1 HK.out.2
      have KU := fun W => unpack_any (w := W) (fours_h H) (by omega)
      have KG := fun (A3 : Option Addr) (c3 : Nat) (W : World) (hr : Rd W A3 N (encH H)) (hT : Tab W) => (getHeap_any A3 N c3 (encH H) W hr (by omega) hT).mono (R' := fun e w' => Below W.heap.size W w' ∧ ∃ s os, e = .returned (.tuple #[hval H s, .int .i64 0]) ∧ OwnHp w' W.heap.size s os H) fun e w' ⟨q1, q2⟩ => ⟨q1, by
        rcases q2 with ⟨H', s, os, r1, r2, r3⟩ | ⟨_, r3⟩
        · obtain rfl : H' = H := HK.out.1.inj r3.1 r3.2.symm |>.symm
          exact ⟨s, os, r1, r2⟩
        · exact absurd rfl (r3 H HK.out.1)⟩
      have H9 := Lib.hid (And.intro hrb hbel)
      have HN := Lib.hid hN
      have Hn := Lib.hid (And.intro hne hpl)
      clear hC hG hR hCm hlen hxs hx hg1 hg2 hfl hf hbd hrb hbel hgl hN hne hpl hkG
      go_upto_region 9 with (first | (go_at_call 109; refine (KC _).mono ?_; rintro e w1 ⟨rfl, hw1⟩; subst hw1) | (go_at_call 110; refine KW.mono ?_; rintro e w1 ⟨⟨v, rfl⟩, q1, q2, q3⟩; have B1 := Lib.hid (H9.out.2.trans q2); have R1 := Lib.hid (q3 _ _ _ H9.out.1 (by decide) (by omega)); have KS := string_kept q1 Hn.out.1 (by have := Hn.out.2; omega); clear q1 q2 q3 KW H9) | (go_at_call 113; refine KS.mono ?_; rintro e w2 ⟨rfl, q2, q3⟩; have B2 := Lib.hid (B1.out.trans q2); have R2 := Lib.hid (q3 _ _ _ R1.out (by decide)); clear q2 q3 KS B1 R1) | (go_at_call 112; refine (KU _).mono ?_; rintro e w3 ⟨v3, rfl, o3, b3⟩; obtain ⟨A3, c3, rfl, hc3, hm3, hr3⟩ := o3.shapeN HN.out; have B3 := Lib.hid (B2.out.trans (b3.mono B2.out.size)); have R3 := Lib.hid (R2.out.below b3); have KG3 := KG A3 c3 _ hr3 (HT.out.below B3.out); clear KG o3 b3 hc3 hm3 hr3 B2 R2) | (go_at_call 111; refine KG3.mono ?_; rintro e w4 ⟨b4, ⟨A4, n4, c4, F4, m4, d4⟩, os4, rfl, O4⟩; simp only [hval, hcs]; have B4 := Lib.hid (B3.out.trans (b4.mono B3.out.size)); have B3S := Lib.hid B3.out.size; have R4 := Lib.hid (R3.out.below b4); have Q4 := Lib.hid O4; clear KG3 B3 R3 O4 b4))
      have K5 := Whole.new w4 #[.int .i64 H.od, .slice A4 n4 c4, .int .i64 H.nx, .int .i64 (tget H 0), .int .i64 (tget H 1), .int .i64 (tget H 2), .int .i64 (tget H 3), .slice F4 m4 d4] 28
      have hb5 : Below w4.heap.size w4 (w4.alloc (.cells #[.int .i64 H.od, .slice A4 n4 c4, .int .i64 H.nx, .int .i64 (tget H 0), .int .i64 (tget H 1), .int .i64 (tget H 2), .int .i64 (tget H 3), .slice F4 m4 d4] 28)) := (Below.refl _ _).alloc (Nat.le_refl _) _
      have O5 := (Q4.out.below hb5).mono (base' := w.heap.size) B3S.out
      have R5 := R4.out.below hb5
      have B5 := B4.out.trans (hb5.mono B4.out.size)
      generalize w4.alloc (.cells _ 28) = W5 at K5 O5 R5 B5 ⊢
      obtain ⟨k0, k1, k2, k3, k4, k5, k6, k7⟩ := K5.eight
      have hPl : (hpcs H).length = k + 1 := by rw [HM.out.2.2.1, signed_length, HM.out.2.1]
      have KP := fun (V : World) (hb : Below W5.heap.size W5 V) => pieces_heap ⟨A4, n4, c4, F4, m4, d4⟩ H V (O5.rd.below hb) (HT.out.below (B5.trans (hb.mono B5.size))) HK.out.1 HK.out.2 (right_small HK.out.1.right)
      simp only [hval, hcs] at KP
      have RT := (HH.out.below B5).take (k := k + 1) (by omega)
      rw [svs_append, List.take_left' (by rw [svs_length, hPl])] at RT
      obtain ⟨K1, hK1⟩ : ∃ K1, K1 = k + 1 := ⟨_, rfl⟩
      rw [← hK1] at RT hPl
      have hK2 : (k : Int) + 1 = (K1 : Int) := by omega
      have hKc : K1 ≤ c := by have := Hc.out.1; omega
      have HK1 := Lib.hid hK1
      have d1 : IntKind.i64.wrap (K1 : Int) = (K1 : Int) := IntWalk.i64_in _ (by omega)
      have KE := fun (A6 : Option Addr) (c6 : Nat) (V : World) (hb : Below W5.heap.size W5 V) (h6 : RdV V A6 K1 (svs (hpcs H))) => eqs_any (n := K1) (c := c6) (d := c) h6 (RT.below hb) (by have := HK1.out; omega)
      have H5 := Lib.hid (And.intro K5 (And.intro O5 (And.intro R5 B5)))
      have HPl := Lib.hid (show (svs (hpcs H)).length = K1 by rw [svs_length, hPl])
      have HW5 : Below W5.heap.size W5 W5.drew := (Below.refl _ _).drew
      clear hK1
      clear K5 O5 R5 B5 hPl RT hb5 Q4 R4 B4
      go_cut [4] (fun u wc => u = .bool true ∧ Below W5.heap.size W5 wc)
      case first =>
        go_region_with (first | (go_at_call 71; refine (KP _ HW5).mono ?_; rintro e w6 ⟨v6, rfl, o6, b6⟩; obtain ⟨A6, c6, rfl, _, _, h6⟩ := o6.shape HPl.out; have HB6 := Lib.hid (HW5.trans b6); have KE6 := KE A6 c6 _ HB6.out h6; clear o6 b6 h6) | (go_at_call 72; refine KE6.mono ?_; rintro e w7 ⟨rfl, b7⟩; have HB7 := Lib.hid (HB6.out.trans (b7.mono HB6.out.size))))
        all_goals (
          go_wp2_with fail
          go_meet)
        all_goals exact ⟨rfl, HB7.out⟩
      case rest =>
        obtain ⟨rfl, hbc⟩ := hcut
        obtain ⟨K5, O5, R5, B5⟩ := H5.out
        have K6 := K5.below hbc
        have R6 := R5.below hbc
        have O6 := O5.below hbc
        have B6 := B5.trans (hbc.mono B5.size)
        obtain ⟨k0, k1, k2, k3, k4, k5, k6, k7⟩ := K6.eight
        have Z : Whole wc w.heap.size 28 [.int .i64 0, .slice none 0 0, .int .i64 0, .int .i64 0, .int .i64 0, .int .i64 0, .int .i64 0, .slice none 0 0] := R6
        obtain ⟨z0, z1, z2, z3, z4, z5, z6, z7⟩ := Z.eight
        have fr := Z.free
        obtain ⟨e8, g8⟩ := set8_any (H := H) (s := ⟨A4, n4, c4, F4, m4, d4⟩) Z
        have O8 := (O6.other Z g8).below (Below.refl _ _).drew
        have B8 := (below_grown B6 g8 B6.size (Nat.le_refl _)).drew
        have RC := H00.out.cutAt (k := K1) (by have := HK1.out; omega)
        have hre : (svs (hpcs H ++ rest)).drop K1 = svs rest := by
          rw [svs_append, List.drop_left' HPl.out]
        rw [hre] at RC
        have hrl : n - K1 = rest.length := by have := HM.out.2.2.2.2; have := HK1.out; omega
        have HE := Lib.hid (And.intro e8.drew (And.intro O8 (And.intro B8 (And.intro RC hrl))))
        have hKn : K1 ≤ n := by have := HK1.out; omega
        have d6 : ¬ ((n : Int) < (K1 : Int)) := by omega
        clear K5 O5 R5 B5 K6 R6 O6 B6 Z e8 g8 O8 B8 RC hre hrl H5 KP KE
        go_upto_region 10 with (fail)
        go_region
        all_goals go_wp2_with fail
        all_goals (
          refine bodyPost_ret (results_ctt rfl _ _ w.heap.size rfl HE.out.1) rfl ?_
          obtain ⟨_, q2, q3, q4, q5⟩ := HE.out
          first
            | (refine ⟨some ⟨b, o + K1, none⟩, c - K1, ⟨A4, n4, c4, F4, m4, d4⟩, os4, ?_, q2, by rw [← q5]; exact q4, q3⟩
               rw [← q5]
               rfl)
            | (have h0 : rest.length = 0 := by have := Hc.out.1; omega
               refine ⟨some ⟨b, o, none⟩, 0, ⟨A4, n4, c4, F4, m4, d4⟩, os4, ?_, q2, ⟨by rw [svs_length], fun h => absurd h (by omega)⟩, q3⟩
               rw [← q5]
               rfl))
end Go.Proofs.YtcodpnbemdflcaaGreatDoor
namespace Go.Proofs.YtcodpnbemdflcaaGreatDoor
open Go.RowKit
theorem oRes_op {o:Opn} (h:IntOp o):oRes ((opI o).flatMap encI)=(opI o,0):=by
 have:=(prep_codec pint_codec 7).full (opI o) [] ⟨rfl,h⟩
 rw [List.append_nil] at this
 exact oRes_some this
def Redo (H:Hp) (rest:List (List UInt8)) (H':Hp):Prop :=
 (rest = []∧H'=H) ∨ ∃ o,rest = [opR o]∧IntOp o∧countsB o (doneH H o).2.1=true∧H'=(doneH H o).1
def RedPost (w:World) (base:Nat) (H':Hp) (e:Ending) (w':World):Prop :=
 ∃ s os,e = .returned (.tuple #[hval H' s, .slice none 0 0, .bool true])∧OwnHp w' base s os H'∧Below w.heap.size w w'
def RdsRel (w:World) (base hb rb n:Nat) (H H':Hp) (i:Value) (wr:World):Prop :=
 ∃ k:Nat,k≤n∧i = .int .i64 (k:Int)∧(∃ s os,Whole wr hb 28 (hcs (if k=0 then H else H') s)∧OwnHp wr base s os (if k=0 then H else H'))∧Whole wr rb 28 zcs∧Below w.heap.size w wr
set_option maxRecDepth 100000 in
set_option maxHeartbeats 4000000 in
theorem redone_any {B:Option Addr} {n c base:Nat} {s:HSl} {os:List (Ob × OSl)} {H H':Hp} {rest:List (List UInt8)} {w:World} (h:OwnHp w base s os H) (hbase:base≤w.heap.size) (hr:RdV w B n (svs rest)) (hT:Tab w) (k:RightH H) (hre:Redo H rest H') :
  Calls Tryz.prog 70 #[hval H s, .slice B n c] w (RedPost w base H' ):=by
 have hn:n=rest.length:=by rw [← hr.len,svs_length]
 have hn1:n≤1:=by
  rcases hre with ⟨e,_⟩ | ⟨o,e,_⟩ <;> rw [hn,e] <;> simp
 have hHH:n=0→H'=H:=fun e=>by
  rcases hre with ⟨_,e2⟩ | ⟨o,e2,_⟩
  ·exact e2
  ·rw [e2] at hn;simp at hn;omega
 have KH:=(Whole.new w (hcs H s).toArray 28).alloc (.cells zcs.toArray 28)
 have KR:=Whole.new (w.alloc (.cells (hcs H s).toArray 28)) zcs.toArray 28
 rw [World.size_alloc] at KR
 have hB0:Below w.heap.size w ((w.alloc (.cells (hcs H s).toArray 28)).alloc (.cells zcs.toArray 28)):=((Below.refl _ w).alloc (Nat.le_refl _) _).alloc (by simp) _
 have h0:=h.below hB0
 have H0:=Lib.hid (And.intro KH (And.intro KR (And.intro hB0 h0)))
 have HR:=Lib.hid hr
 have HT:=Lib.hid hT
 have HK:=Lib.hid k
 have HE:=Lib.hid hre
 have Hh:=Lib.hid hHH
 have Hb:=Lib.hid hbase
 have Hn:=Lib.hid hn
 obtain ⟨A,nA,cA,F,mF,dF⟩:=s
 simp only [hval,hcs,zcs] at *
 clear h hr hT k hre KH KR hB0 h0 hHH hbase hn
 go_enter Tryz.func70,Tryz.ntmps70
 go_wp2_with fail
 go_loopw [17] (RdsRel w base w.heap.size (w.heap.size+1) n H H') (fun i _=>n - (Go.RowKit.intOf i).toNat)
 case atStart=>exact ⟨0,Nat.zero_le _,rfl,⟨⟨A,nA,cA,F,mF,dF⟩,os,H0.out.1,H0.out.2.2.2⟩,H0.out.2.1,H0.out.2.2.1⟩
 case round =>
  obtain ⟨k,hk,rfl,⟨⟨A2,n2,c2,F2,m2,d2⟩,os2,hw,ho⟩,hz,hbel⟩:=hrel
  by_cases hlt:k < n
  ·obtain rfl:k=0:=by omega
   obtain ⟨o,hro,hio,hco,hH'⟩ : ∃ o,rest = [opR o]∧IntOp o∧countsB o (doneH H o).2.1=true∧H'=(doneH H o).1:=by
    rcases HE.out with ⟨e,_⟩ | q
    ·have:=Hn.out
     rw [e] at this
     simp at this
     omega
    ·exact q
   rw [if_pos rfl] at hw ho
   obtain ⟨b,off,x,rfl,hbb,hx,hcell⟩:=(HR.out.below hbel).cell hlt
   rw [hro] at hx
   injection hx with hx
   subst hx
   obtain ⟨E,hE⟩ : ∃ E,E=(opI o).flatMap encI:=⟨_,rfl⟩
   have hEl:E.length=56:=by rw [hE,flat_length encI_length];rfl
   have hop:opR o=111 :: E:=by rw [hE];rfl
   rw [hop,Nat.add_zero] at hcell
   change World.cell? _ _=some (.string ⟨(111 :: E).toArray⟩) at hcell
   have KC:=fun W=>cutPrefix_any 111 111 E W (by omega)
   rw [if_pos rfl,decide_eq_true rfl] at KC
   obtain ⟨cB,w2,hcv,hrd,hbB, -, -⟩:=bytes_of wr ⟨E.toArray⟩ (by show E.toArray.size≤_;simp [hEl,maxLen])
   rw [show (ByteArray.mk E.toArray).size=56 by show E.toArray.size=56;simpa using hEl] at hrd hcv
   rw [show (ByteArray.mk E.toArray).data.toList=E by simp] at hrd
   have KO:=getOp_any _ 56 cB E w2 hrd (by omega)
   unfold GotO at KO
   rw [hE,oRes_op hio] at KO
   generalize ByteArray.mk (111 :: E).toArray=s1 at hcell KC
   generalize ByteArray.mk E.toArray=s2 at KC hcv
   simp only [hcs] at hw
   obtain ⟨k0,k1,k2,k3,k4,k5,k6,k7⟩:=hw.eight
   have hov:Value.agg (intvs (opI o)).toArray=opv o:=rfl
   rw [hov] at KO
   have HW:=Lib.hid (And.intro hw (And.intro ho (And.intro hz hbel)))
   have HO:=Lib.hid (And.intro hio (And.intro hco hH'))
   have HbB:=Lib.hid hbB
   obtain ⟨o0,o1,o2,o3,o4,o5,o6⟩:=o
   simp only [opv,opcs] at KO hov
   clear hro hio hco hH' hE hEl hop hrd hbB hw ho hz hbel hov
   go_upto_region 8 with (first | (go_at_call 109;refine (KC _).mono ?_;rintro e w1 ⟨rfl,hw1⟩;have hw1:=hw1.symm;subst hw1) | (go_at_call 115;refine KO.mono ?_;rintro e w3 ⟨b3,rfl⟩;have B3:=Lib.hid (HbB.out.trans (b3.mono HbB.out.size));clear b3 KO))
   have KOp:=Whole.new w3 #[.int .i64 o0, .int .i64 o1, .int .i64 o2, .int .i64 o3, .int .i64 o4, .int .i64 o5, .int .i64 o6] 45
   have b4:Below wr.heap.size wr (w3.alloc (.cells #[.int .i64 o0, .int .i64 o1, .int .i64 o2, .int .i64 o3, .int .i64 o4, .int .i64 o5, .int .i64 o6] 45)):=B3.out.alloc B3.out.size _
   have hs4:wr.heap.size≤w3.heap.size:=B3.out.size
   generalize w3.alloc (.cells _ 45)=W4 at KOp b4 ⊢
   have hw4:=HW.out.1.below b4
   have ho4:=HW.out.2.1.below b4
   have hz4:=HW.out.2.2.1.below b4
   have hbel4:=HW.out.2.2.2.trans (b4.mono HW.out.2.2.2.size)
   obtain ⟨k0,k1,k2,k3,k4,k5,k6,k7⟩:=hw4.eight
   obtain ⟨p0,p1,p2,p3,p4,p5,p6⟩:=KOp.seven
   have KD:=do_heap ⟨A2,n2,c2,F2,m2,d2⟩ H ⟨o0,o1,o2,o3,o4,o5,o6⟩ W4 ho4.rd (right_small HK.out) (HT.out.below hbel4)
   rw [doH_right HK.out] at KD
   obtain ⟨r,hr⟩ : ∃ r,r=doneH H ⟨o0,o1,o2,o3,o4,o5,o6⟩:=⟨_,rfl⟩
   rw [← hr] at KD
   have HRr:=Lib.hid (show countsB ⟨o0,o1,o2,o3,o4,o5,o6⟩ r.2.1=true∧H'=r.1 by rw [hr];exact ⟨HO.out.2.1,HO.out.2.2⟩)
   clear hr
   unfold InPost at KD
   simp only [hval,hcs,opv,opcs] at KD
   have H4:=Lib.hid (And.intro KOp (And.intro hw4 (And.intro hz4 hbel4)))
   have hwW:w.heap.size+1 < W4.heap.size:=hz4.lt
   have HwW:=Lib.hid (And.intro hwW hs4)
   clear KOp hw4 hz4 hbel4 ho4 b4 hwW hs4
   go_upto_region 9 with (go_at_call 9;refine KD.mono ?_;rintro e w5 ⟨⟨A5,n5,c5,F5,m5,d5⟩,os5,rfl,O5,b5⟩;simp only;have H5:=Lib.hid (And.intro O5 b5);clear KD O5 b5)
   have KB:=(Whole.new w5 #[.int .i64 r.1.od, .slice A5 n5 c5, .int .i64 r.1.nx, .int .i64 (tget r.1 0), .int .i64 (tget r.1 1), .int .i64 (tget r.1 2), .int .i64 (tget r.1 3), .slice F5 m5 d5] 28).alloc (.cells #[.int .i64 r.2.1, .int .i64 r.2.2] 40)
   have KQ:=Whole.new (w5.alloc (.cells #[.int .i64 r.1.od, .slice A5 n5 c5, .int .i64 r.1.nx, .int .i64 (tget r.1 0), .int .i64 (tget r.1 1), .int .i64 (tget r.1 2), .int .i64 (tget r.1 3), .slice F5 m5 d5] 28)) #[.int .i64 r.2.1, .int .i64 r.2.2] 40
   rw [World.size_alloc] at KQ
   have b7:Below w5.heap.size w5 ((w5.alloc (.cells #[.int .i64 r.1.od, .slice A5 n5 c5, .int .i64 r.1.nx, .int .i64 (tget r.1 0), .int .i64 (tget r.1 1), .int .i64 (tget r.1 2), .int .i64 (tget r.1 3), .slice F5 m5 d5] 28)).alloc (.cells #[.int .i64 r.2.1, .int .i64 r.2.2] 40)):=((Below.refl _ _).alloc (Nat.le_refl _) _).alloc (by simp) _
   generalize (w5.alloc (.cells _ 28)).alloc (.cells _ 40)=W7 at KB KQ b7 ⊢
   have b47:=H5.out.2.trans (b7.mono H5.out.2.size)
   have KOp7:=H4.out.1.below b47
   obtain ⟨p0,p1,p2,p3,p4,p5,p6⟩:=KOp7.seven
   have q0:=KQ.cell 0
   have q1:=KQ.cell 1
   simp only [List.getElem?_cons_succ,List.getElem?_cons_zero] at q0 q1
   have KN:=counts_any ⟨o0,o1,o2,o3,o4,o5,o6⟩ r.2.1 r.2.2 W7
   rw [HRr.out.1] at KN
   simp only [opv,opcs] at KN
   have H7:=Lib.hid (And.intro KB (And.intro b47 b7))
   clear KB KQ b7 b47 KOp7 k0 k1 k2 k3 k4 k5 k6 k7
   go_upto_region 11 with (go_at_call 54;refine KN.mono ?_;rintro e w8 ⟨rfl,b8⟩;have H8:=Lib.hid b8;clear KN b8)
   have b48:=H7.out.2.1.trans (H8.out.mono H7.out.2.1.size)
   have KB8:=H7.out.1.below H8.out
   obtain ⟨k0,k1,k2,k3,k4,k5,k6,k7⟩:=KB8.eight
   have Z:=H4.out.2.1.below b48
   obtain ⟨z0,z1,z2,z3,z4,z5,z6,z7⟩:=Z.eight
   have fr:=Z.free
   obtain ⟨e8,g8⟩:=set8_any (H:=r.1) (s:=⟨A5,n5,c5,F5,m5,d5⟩) Z
   have O8:=((H5.out.1.below (H7.out.2.2.trans (H8.out.mono H7.out.2.2.size))).other Z g8).mono (base':=base) (by have:=Hb.out;have:=HwW.out.1;omega)
   have R8:=(H4.out.2.2.1.below b48).grown g8 (by omega)
   have B8:=below_grown (H4.out.2.2.2.trans (b48.mono H4.out.2.2.2.size)) g8 (by have:=(H4.out.2.2.2.trans (b48.mono H4.out.2.2.2.size)).size;omega) (Nat.le_refl _)
   have HF:=Lib.hid (And.intro e8 (And.intro O8 (And.intro R8 B8)))
   clear b48 KB8 Z e8 g8 O8 R8 B8
   go_wp2_with fail
   go_roundw
   case rel =>
    have hh:=HRr.out.2
    exact ⟨1,by omega,by go_num,⟨⟨A5,n5,c5,F5,m5,d5⟩,os5,by rw [if_neg (by decide),hh];exact HF.out.1,by rw [if_neg (by decide),hh];exact HF.out.2.1⟩,HF.out.2.2.1,HF.out.2.2.2⟩
   case measure=>simp [Go.RowKit.intOf];omega
  ·obtain rfl:k=n:=by omega
   have e:(if k=0 then H else H')=H':=by
    split
    ·rw [Hh.out ‹_›]
    ·rfl
   rw [e] at hw ho
   simp only [hcs] at hw
   obtain ⟨k0,k1,k2,k3,k4,k5,k6,k7⟩:=hw.eight
   have Z:Whole wr (w.heap.size+1) 28 [.int .i64 0, .slice none 0 0, .int .i64 0, .int .i64 0, .int .i64 0, .int .i64 0, .int .i64 0, .slice none 0 0]:=hz
   obtain ⟨z0,z1,z2,z3,z4,z5,z6,z7⟩:=Z.eight
   have fr:=Z.free
   obtain ⟨e8,g8⟩:=set8_any (H:=H') (s:=⟨A2,n2,c2,F2,m2,d2⟩) Z
   have O8:=ho.other Z g8
   have B8:=below_grown hbel g8 hbel.size (Nat.le_succ _)
   have HF:=Lib.hid (And.intro e8 (And.intro O8 B8))
   clear hw ho hz hbel Z e8 g8 O8 B8 e
   go_wp2_with fail
   refine bodyPost_ret (results_ctt rfl _ _ (w.heap.size+1) rfl HF.out.1) rfl ?_
   exact ⟨⟨A2,n2,c2,F2,m2,d2⟩,os2,rfl,HF.out.2.1,HF.out.2.2⟩
end Go.Proofs.YtcodpnbemdflcaaGreatDoor
namespace Go.Proofs.YtcodpnbemdflcaaGreatDoor
open Go.RowKit
def ToldPost (w:World) (H:Hp) (e:Ending) (w':World):Prop :=
 ∃ s os,e = .returned (.tuple #[hval H s, .int .i64 0, .bool true])∧OwnHp w' w.heap.size s os H∧Below w.heap.size w w'
set_option maxRecDepth 100000 in
set_option maxHeartbeats 4000000 in
theorem told_new {r:Int} {w:World} (hr:3≤r∧r≤8) {B:Option Addr} {c:Nat} :
  Calls Tryz.prog 36 #[.int .i64 r, .int .i64 1, .slice B 0 c] w (ToldPost w (newH r)):=by
 have KR:=Whole.new w zcs.toArray 28
 have hB0:Below w.heap.size w (w.alloc (.cells zcs.toArray 28)):=(Below.refl _ w).alloc (Nat.le_refl _) _
 have KN:=fun W=>new_heap r W
 unfold NewPost newR newE at KN
 rw [if_pos hr,if_pos hr] at KN
 have H0:=Lib.hid (And.intro KR hB0)
 clear KR hB0 hr
 simp only [zcs] at *
 go_enter Tryz.func36,Tryz.ntmps36
 go_upto_region 2 with (fail)
 generalize w.alloc (.cells _ 28)=W at H0 ⊢
 have KN1:=KN W
 clear KN
 have Z:=H0.out.1
 have HW:=Lib.hid (And.intro H0.out.2 Z.lt)
 obtain ⟨z0,z1,z2,z3,z4,z5,z6,z7⟩:=Z.eight
 have fr:=Z.free
 clear Z
 go_upto_region 3 with (go_at_call 4;refine KN1.mono ?_;rintro e w2 ⟨⟨A5,n5,c5,F5,m5,d5⟩,rfl,O5,b5⟩;simp only [hval,hcs];have Z:=H0.out.1.below b5;have z0:=Z.cell 0;have z1:=Z.cell 1;have z2:=Z.cell 2;have z3:=Z.cell 3;have z4:=Z.cell 4;have z5:=Z.cell 5;have z6:=Z.cell 6;have z7:=Z.cell 7;simp only [List.getElem?_cons_succ,List.getElem?_cons_zero] at z0 z1 z2 z3 z4 z5 z6 z7;have fr:=Z.free;have H5:=Lib.hid (And.intro O5 b5);clear KN1 O5 b5 Z)
 obtain ⟨e8,g8⟩:=set8_any (H:=newH r) (s:=⟨A5,n5,c5,F5,m5,d5⟩) (H0.out.1.below H5.out.2)
 have O8:=H5.out.1.other (H0.out.1.below H5.out.2) g8
 have B2:=HW.out.1.trans (H5.out.2.mono HW.out.1.size)
 have B8:=below_grown B2 g8 B2.size (Nat.le_refl _)
 have O8':=O8.mono (base':=w.heap.size) (by have:=HW.out.2;omega)
 simp only [set8,hcs] at e8 g8 O8 O8' B8
 clear B2
 generalize (((((((w2.setCell _ _).setCell _ _).setCell _ _).setCell _ _).setCell _ _).setCell _ _).setCell _ _).setCell _ _=W3 at e8 g8 O8 O8' B8 ⊢
 obtain ⟨k0,k1,k2,k3,k4,k5,k6,k7⟩:=e8.eight
 have fr3:=e8.free
 obtain ⟨e9,g9⟩:=set8_any (H:=newH r) (s:=⟨A5,n5,c5,F5,m5,d5⟩) e8
 have O9:=O8'.other e8 g9
 have B9:=below_grown B8 g9 B8.size (Nat.le_refl _)
 have HF:=Lib.hid (And.intro e9 (And.intro O9 B9))
 clear e8 g8 O8 O8' B8 e9 g9 O9 B9 z0 z1 z2 z3 z4 z5 z6 z7 fr
 go_wp2_with fail
 refine bodyPost_ret (results_ctt rfl _ _ w.heap.size rfl HF.out.1) rfl ?_
 exact ⟨⟨A5,n5,c5,F5,m5,d5⟩, [],rfl,HF.out.2.1,HF.out.2.2⟩
set_option maxRecDepth 100000 in
set_option maxHeartbeats 4000000 in
theorem told_log {f:Int} {n c:Nat} {B:Option Addr} {H H':Hp} {rest:List (List UInt8)} {w:World} (h:RdV w B n (svs (hpcs H++rest))) (hn:n≤1000) (hnc:n≤c) (hc:c≤maxLen) (hT:Tab w) (k:ImH H) (hx:H.nx≤65535) (k':ImH H') (hx':H'.nx≤65535) (hod:H'.od=H.od) (hre:Redo H rest H') :
  Calls Tryz.prog 36 #[.int .i64 H.od, .int .i64 f, .slice B n c] w (ToldPost w H'):=by
 have KR:=Whole.new w zcs.toArray 28
 have hB0:Below w.heap.size w (w.alloc (.cells zcs.toArray 28)):=(Below.refl _ w).alloc (Nat.le_refl _) _
 have hn0 : ¬ (n:Int)=0:=by
  have h1:=h.len
  have h2:=pkd_pos (enc_pos H)
  rw [svs_length,List.length_append,show hpcs H=signed (grps 1023 (pkd (encH H))) from rfl,signed_length,grps_length] at h1
  unfold gcnt at h1
  omega
 have KI:=imaged_any h hB0 hn hnc hc (hT.below hB0) k hx
 unfold ImgPost at KI
 have H0:=Lib.hid (And.intro KR hB0)
 have HT:=Lib.hid hT
 have HK:=Lib.hid (And.intro k (And.intro hx (And.intro k' (And.intro hx' (And.intro hod hre)))))
 clear KR hB0 h hn hnc hc hT k hx k' hx' hod hre
 simp only [zcs] at *
 go_enter Tryz.func36,Tryz.ntmps36
 go_upto_region 1 with (fail)
 generalize w.alloc (.cells _ 28)=W at H0 KI ⊢
 go_cut [17] (fun v wc=>v = .bool false∧wc=W)
 case first =>
  by_cases hf:f=1
  ·go_wp2
   all_goals go_meet
   all_goals exact ⟨by simpa using hn0,rfl⟩
  ·go_wp2
   all_goals go_meet
   all_goals exact ⟨rfl,rfl⟩
 case rest =>
  obtain ⟨rfl,hcw⟩:=hcut
  have hcw:=hcw.symm
  subst hcw
  go_upto_region 5 with (go_at_call 69;refine KI.mono ?_;rintro e w2 ⟨A2,c2,⟨A5,n5,c5,F5,m5,d5⟩,os5,rfl,O5,R5,b5⟩;simp only [hval,hcs];have Z:=H0.out.1.below b5;have z0:=Z.cell 0;have z1:=Z.cell 1;have z2:=Z.cell 2;have z3:=Z.cell 3;have z4:=Z.cell 4;have z5:=Z.cell 5;have z6:=Z.cell 6;have z7:=Z.cell 7;simp only [List.getElem?_cons_succ,List.getElem?_cons_zero] at z0 z1 z2 z3 z4 z5 z6 z7;have fr:=Z.free;have H5:=Lib.hid (And.intro O5 (And.intro b5 R5));clear KI O5 b5 Z R5)
  obtain ⟨e8,g8⟩:=set8_any (H:=H) (s:=⟨A5,n5,c5,F5,m5,d5⟩) (H0.out.1.below H5.out.2.1)
  have Wlt:=H0.out.1.lt
  have O8:=(H5.out.1.other (H0.out.1.below H5.out.2.1) g8).mono (base':=w.heap.size) (by omega)
  have B2:=H0.out.2.trans (H5.out.2.1.mono H0.out.2.size)
  have B8:=below_grown B2 g8 B2.size (Nat.le_refl _)
  have R8:=H5.out.2.2.below B8
  simp only [set8,hcs] at e8 g8 O8 B8 R8
  clear B2 z0 z1 z2 z3 z4 z5 z6 z7 fr Wlt
  generalize (((((((w2.setCell _ _).setCell _ _).setCell _ _).setCell _ _).setCell _ _).setCell _ _).setCell _ _).setCell _ _=W3 at e8 g8 O8 B8 R8 ⊢
  obtain ⟨k0,k1,k2,k3,k4,k5,k6,k7⟩:=e8.eight
  have fr3:=e8.free
  have KD:=redone_any (c:=c2) O8 B8.size R8 (HT.out.below B8) HK.out.1.right HK.out.2.2.2.2.2
  unfold RedPost at KD
  simp only [hval,hcs] at KD
  have H8:=Lib.hid (And.intro e8 B8)
  have HBs:=Lib.hid B8.size
  clear O8 B8 R8 g8
  go_upto_region 8 with (go_at_call 70;refine KD.mono ?_;rintro e w4 ⟨⟨A6,n6,c6,F6,m6,d6⟩,os6,rfl,O6,b6⟩;dsimp only;have Z:=H8.out.1.below b6;have z0:=Z.cell 0;have z1:=Z.cell 1;have z2:=Z.cell 2;have z3:=Z.cell 3;have z4:=Z.cell 4;have z5:=Z.cell 5;have z6:=Z.cell 6;have z7:=Z.cell 7;simp only [List.getElem?_cons_succ,List.getElem?_cons_zero] at z0 z1 z2 z3 z4 z5 z6 z7;have fr:=Z.free;have H6:=Lib.hid (And.intro O6 (And.intro b6 Z));clear KD O6 b6 Z)
  obtain ⟨e8,g8⟩:=set8_any (H:=H') (s:=⟨A6,n6,c6,F6,m6,d6⟩) H6.out.2.2
  have O8:=H6.out.1.other H6.out.2.2 g8
  have B2:=H8.out.2.trans (H6.out.2.1.mono H8.out.2.size)
  have B8:=below_grown B2 g8 B2.size (Nat.le_refl _)
  simp only [set8,hcs] at e8 g8 O8 B8
  clear B2 z0 z1 z2 z3 z4 z5 z6 z7 fr k0 k1 k2 k3 k4 k5 k6 k7 fr3 H6
  generalize (((((((w4.setCell _ _).setCell _ _).setCell _ _).setCell _ _).setCell _ _).setCell _ _).setCell _ _).setCell _ _=W5 at e8 g8 O8 B8 ⊢
  obtain ⟨k0,k1,k2,k3,k4,k5,k6,k7⟩:=e8.eight
  have KP:=pieces_heap ⟨A6,n6,c6,F6,m6,d6⟩ H' W5 O8.rd (HT.out.below B8) HK.out.2.2.1 HK.out.2.2.2.1 (right_small HK.out.2.2.1.right)
  unfold GivesS at KP
  simp only [hval,hcs] at KP
  obtain ⟨np6,hnp6⟩ : ∃ np6,(svs (hpcs H')).length=np6:=⟨_,rfl⟩
  have Hnp:=Lib.hid hnp6
  clear hnp6
  have H9:=Lib.hid (And.intro e8 (And.intro O8 B8))
  clear e8 g8 O8 B8
  go_upto_region 13 with (first | (go_at_call 71;refine KP.mono ?_;rintro e w6 ⟨v6,rfl,o6,b6⟩;obtain ⟨A7,c7,rfl,_,_,h7⟩:=o6.shape Hnp.out;have H7:=Lib.hid b6;clear o6 b6 h7 KP) | (go_at_call 72;refine (eqs_any (n:=0) (T := []) ⟨rfl,fun h=>absurd h (by omega)⟩ ⟨rfl,fun h=>absurd h (by omega)⟩ (by omega)).mono ?_;rintro e w7 ⟨rfl,b7⟩;have H7':=Lib.hid (H7.out.trans (b7.mono H7.out.size));clear b7))
  have e7:=H9.out.1.below H7'.out
  have fr7:=e7.free
  obtain ⟨k0,k1,k2,k3,k4,k5,k6,k7⟩:=e7.eight
  obtain ⟨e9,g9⟩:=set8_any (H:=H') (s:=⟨A6,n6,c6,F6,m6,d6⟩) e7
  have O9:=(H9.out.2.1.below H7'.out).other e7 g9
  have B7:=H9.out.2.2.trans (H7'.out.mono H9.out.2.2.size)
  have B9:=below_grown B7 g9 B7.size (Nat.le_refl _)
  have HF:=Lib.hid (And.intro e9 (And.intro O9 B9))
  clear e7 e9 g9 O9 B7 B9 H7'
  go_wp2_with fail
  refine bodyPost_ret (results_ctt rfl _ _ w.heap.size rfl HF.out.1) rfl ?_
  exact ⟨⟨A6,n6,c6,F6,m6,d6⟩,os6,rfl,HF.out.2.1,HF.out.2.2⟩
end Go.Proofs.YtcodpnbemdflcaaGreatDoor
