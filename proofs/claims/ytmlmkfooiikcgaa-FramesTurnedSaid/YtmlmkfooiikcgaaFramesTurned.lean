/- For any message m, any int at and any uint32 turn, FramesTurned returns true: a right message's form with up to 32 bits in a row turned isn't read; other messages, those greater than what is looked at, and a turn of 0, ask the document's example alone. Conditions: none. -/
import Derived.Test.YtmlmkfooiikcgaaRows
import Derived.Test.YtmlmkfooiikcgaaLaw
import Derived.Test.YtmlmkfooiikcgaaFraA
import Derived.Test.YtmlmkfooiikcgaaFraG
namespace Go.Proofs.Ytmlmkfooiikcgaa.framesTurned
open Go.ChangeShapes Go.WideShapes Go.ChangeAt Go.RowKit
set_option linter.unusedVariables false
attribute [local go_sem ↓] ldMsg_eq

theorem pow_step {t j : Nat} (h1 : t % 256 ^ j = 0) (h2 : t / 256 ^ j % 256 = 0) : t % 256 ^ (j + 1) = 0 := by
  rw [Nat.pow_succ, Nat.mod_mul, h1, h2]; rfl
/-- so many bytes are turned: if nothing has turned there was nothing to turn -/
def So (s x : List UInt8) (t j : Nat) : Prop := x = s → t % 256 ^ j = 0
theorem So.step {s x : List UInt8} {t j K : Nat} {y : UInt8} (h : So s x t j) (hl : x.length = s.length) (hK : K + j < x.length) (hxo : x[K + j]? = s[K + j]?) (hy : x.getD (K + j) 0 = y) :
    So s (x.set (K + j) (UInt8.ofNat (y.toNat ^^^ (t / 256 ^ j % 256)))) t (j + 1) := fun e => by
  have h1 : (x.set (K + j) (UInt8.ofNat (y.toNat ^^^ (t / 256 ^ j % 256))))[K + j]? = some (UInt8.ofNat (y.toNat ^^^ (t / 256 ^ j % 256))) := by
    rw [List.getElem?_set, if_pos rfl, if_pos hK]
  have hyx : x[K + j]? = some y := by rw [← hy, List.getD_eq_getElem?_getD, List.getElem?_eq_getElem hK]; rfl
  have h2 : UInt8.ofNat (y.toNat ^^^ (t / 256 ^ j % 256)) = y := by
    rw [e, ← hxo, hyx] at h1
    injection h1 with h1
    exact h1.symm
  have h3 : y.toNat ^^^ (t / 256 ^ j % 256) = y.toNat := by
    have hl : y.toNat ^^^ (t / 256 ^ j % 256) < 256 := Nat.xor_lt_two_pow (n := 8) (byte_lt y) (Nat.mod_lt _ (by omega))
    have := congrArg UInt8.toNat h2
    rwa [UInt8.toNat_ofNat', Nat.mod_eq_of_lt hl] at this
  have h4 : t / 256 ^ j % 256 = 0 := by
    have e1 : y.toNat ^^^ (y.toNat ^^^ (t / 256 ^ j % 256)) = y.toNat ^^^ y.toNat := by rw [h3]
    rwa [← Nat.xor_assoc, Nat.xor_self, Nat.zero_xor] at e1
  refine pow_step (h ?_) h4
  rw [← e, h2]
  refine List.ext_getElem? fun i => ?_
  rw [List.getElem?_set]
  split
  · rename_i hi
    subst hi
    first | exact hyx | rw [if_pos hK, hyx]
  · rfl

set_option maxRecDepth 100000 in
set_option maxHeartbeats 2000000 in
theorem walk_main (m : Msg) (N B L : Option Addr) (nn nc bn bc ln lc : Nat) (a t : Int) (w : World) (h : MsgAt w m N nn nc B bn bc L ln lc) (ha1 : -9223372036854775808 ≤ a) (ha2 : a ≤ 9223372036854775807) (ht1 : 0 ≤ t) (ht2 : t < 4294967296) :
    Calls Try.prog 5 #[.agg #[.int .i64 m.k, .slice N nn nc, .slice B bn bc, .slice L ln lc], .int .i64 a, .int .u32 t] w fun e w' => e = .returned (.bool true) ∧ Below w.heap.size w w' := by
  have H := Lib.hid h; clear h
  obtain ⟨w1, hw1, hb1, hh1⟩ : ∃ w1, w.alloc (.cells #[.int .i64 m.k, .slice N nn nc, .slice B bn bc, .slice L ln lc] 26) = w1 ∧ Below w.heap.size w w1 ∧ w1.heap[w.heap.size]? = some (.cells #[.int .i64 m.k, .slice N nn nc, .slice B bn bc, .slice L ln lc] 26 (0, 0)) :=
    ⟨_, rfl, (Below.refl _ _).alloc (Nat.le_refl _) _, heap_alloc_new _ _⟩
  have Hb1 := Lib.hid hb1
  have Hld := Lib.hid (fun (w' : World) (hb : Below w1.heap.size w1 w') => ldMsg_run (row_below hh1 hb))
  have hl1 := Hld.out w1 (Below.refl _ _)
  clear hh1 hb1
  go_enter Try.func5, Try.ntmps5
  go_wp2_with fail
  refine (Great_any m N B L nn nc bn bc ln lc w1 (H.out.below Hb1.out)).mono ?_
  rintro e w2 ⟨hg, hb2⟩
  have hl2 := Hld.out w2 hb2
  have Hw2 := Lib.hid hb2
  have Hb2 := Lib.hid (Hb1.out.trans (hb2.mono Hb1.out.size))
  clear hb2 hw1 hl1
  rcases hg with rfl | rfl
  · go_wp2_with (go_at_call 9; refine (awake_any _).mono ?_; rintro e w3 ⟨rfl, hb3⟩)
    go_ret
    exact ⟨rfl, Hb2.out.trans (hb3.mono Hb2.out.size)⟩
  have hright := Right_any m N B L nn nc bn bc ln lc w2 (H.out.below Hb2.out)
  cases hr : rightM m with
  | false =>
    rw [hr] at hright
    have Hright := Lib.hid hright; clear hright hr
    go_wp2_with (first
      | (go_at_call 11; refine Hright.out.mono ?_; rintro e w3 ⟨rfl, hb3⟩; have Hb3 := Lib.hid (Hb2.out.trans (hb3.mono Hb2.out.size)); clear hb3)
      | (go_at_call 9; refine (awake_any _).mono ?_; rintro e w4 ⟨rfl, hb4⟩))
    go_ret
    exact ⟨rfl, Hb3.out.trans (hb4.mono Hb3.out.size)⟩
  | true =>
    rw [hr] at hright
    have Hright := Lib.hid hright; clear hright
    by_cases ht0 : t = 0
    · subst ht0
      clear hr
      go_wp2_with (first
        | (go_at_call 11; refine Hright.out.mono ?_; rintro e w3 ⟨rfl, hb3⟩; have Hb3 := Lib.hid (Hb2.out.trans (hb3.mono Hb2.out.size)); clear hb3)
        | (go_at_call 9; refine (awake_any _).mono ?_; rintro e w4 ⟨rfl, hb4⟩))
      go_ret
      exact ⟨rfl, Hb3.out.trans (hb4.mono Hb3.out.size)⟩
    obtain ⟨T, rfl⟩ : ∃ u : Nat, t = u := ⟨t.toNat, by omega⟩
    have ht1 : ((T : Int) == 0) = false := by simp; omega
    have Hput := Lib.hid (fun w' (hb : Below w.heap.size w w') => Put_yes m N B L nn nc bn bc ln lc w' (H.out.below hb) hr)
    have hfl := fields_len hr
    have hfp := fields_pos m
    have hsl : (formM m).length = (fieldsM m).length + 4 := sealOf_length _
    have hT0 : 0 < T ∧ T < 4294967296 := by omega
    have HT0 := Lib.hid hT0
    clear hr ht0 hT0 ht2
    go_wp2_with (go_at_call 11; refine Hright.out.mono ?_; rintro e w3 ⟨rfl, hb3⟩; have Hb3 := Lib.hid (Hb2.out.trans (hb3.mono Hb2.out.size)); have hl3 := Hld.out w3 (Hw2.out.trans (hb3.mono Hw2.out.size)); clear hb3)
    refine (Hput.out w3 Hb3.out).mono ?_
    rintro e w4 ⟨A4, n4, c4, rfl, hlen, hown, hb4⟩
    have hn4 : n4 ≤ 70004 := by omega
    have hn8 : 8 ≤ n4 := by omega
    have hcap := own_cap0 hown
    obtain ⟨g, cap, hv, hg1, hg2⟩ := hown.form (by omega)
    injection hv with hA hnn hc
    clear hnn
    subst hA; subst hc
    obtain ⟨s, hs⟩ : ∃ s, formM m = s := ⟨_, rfl⟩
    have hsf : s = sealOf (fieldsM m) := hs.symm
    rw [hs] at hlen hown
    have Hsf := Lib.hid hsf; have Hlen := Lib.hid hlen; have Own4 := Lib.hid hown; have Hcap := Lib.hid hcap
    have hgw : w.heap.size ≤ g := Nat.le_trans Hb3.out.size hg1
    have hown0 := own_base hown Hb3.out.size
    have Own0 := Lib.hid hown0
    have Hb4 := Lib.hid (Hb3.out.trans (hb4.mono Hb3.out.size))
    have e1 := Int.emod_nonneg a (show (n4 : Int) - 3 ≠ 0 by omega)
    have e2 := Int.emod_lt_of_pos a (show 0 < (n4 : Int) - 3 by omega)
    obtain ⟨K, hK⟩ : ∃ K : Nat, a % ((n4 : Int) - 3) = K := ⟨(a % ((n4 : Int) - 3)).toNat, by omega⟩
    have hKl : K + 4 ≤ n4 := by omega
    have HK := Lib.hid hK; have HKl := Lib.hid hKl; have Hgw := Lib.hid hgw
    clear hgw hg2 hKl hb4 hl3 hl2 hlen hown hcap hfl hsl hfp e1 e2 hK hsf hs hown0 hg1
    go_wp2_with fail
    refine (Pick_any a ((n4 : Int) - 3) _ ha1 ha2 (by omega) (by omega)).mono ?_
    rintro e w' ⟨rfl, rfl⟩
    rw [HK.out]
    go_wp2_with fail
    go_loopw [2, 10] (fun tv iv wr => ∃ (j : Nat) (x : List UInt8), j ≤ 4 ∧ iv = .int .i64 j ∧ tv = .int .u32 ((T / 256 ^ j : Nat) : Int) ∧ wr.ownsRow w.heap.size 5 1 (.slice (some ⟨g, 0, none⟩) n4 c4) n4 (bytesV x) ∧ x.length = n4 ∧
      (∀ i : Nat, i < K ∨ K + j ≤ i → x[i]? = s[i]?) ∧ So s x T j ∧ Below w.heap.size w wr) (fun _ iv _ => 4 - (intOf iv).toNat)
    case atStart => exact ⟨0, s, by omega, rfl, by simp, Own0.out, Hlen.out, fun _ _ => rfl, fun _ => by simp [Nat.mod_one], Hb4.out⟩
    case round =>
      obtain ⟨j, x, hj, rfl, rfl, hown, hxl, hxo, hso, hbw⟩ := hrel
      have Hown := Lib.hid hown; have Hxo := Lib.hid hxo; have Hxl := Lib.hid hxl; have Hbw := Lib.hid hbw; have Hso := Lib.hid hso
      clear hown hxo hxl hbw hso
      obtain ⟨u, hu⟩ : ∃ u, T / 256 ^ j = u := ⟨_, rfl⟩
      have hul : u < 4294967296 := by rw [← hu]; exact Nat.lt_of_le_of_lt (Nat.div_le_self _ _) (by have := HT0.out.2; omega)
      have Hu := Lib.hid hu
      rw [hu]
      clear hu
      by_cases hgo : j < 4
      · have hk4 : K + j < n4 := by have := HKl.out; omega
        have Hk4 := Lib.hid hk4
        obtain ⟨y, hyd⟩ : ∃ y, x.getD (K + j) 0 = y := ⟨_, rfl⟩
        have hy : (bytesV x)[K + j]? = some (byteV y) := by
          have := Hxl.out
          rw [← hyd]
          simp [bytesV, List.getD, List.getElem?_eq_getElem (show K + j < x.length by omega)]
        have hcell : wr.cell? ⟨g, K + j, none⟩ = some (byteV y) := by rw [Hown.out.cellAt (K + j) (by omega)]; exact hy
        have hfz := Hown.out.frozenAt (K + j)
        have Hyd := Lib.hid hyd
        clear hy hyd
        unfold byteV at hcell
        have b0 : (0 : Int) ≤ (K : Int) + (j : Int) := by omega
        have b1 : (K : Int) + (j : Int) < (n4 : Int) := by omega
        clear hk4
        have hz : bits .xor .u8 ((y.toNat : Nat) : Int) ((u : Int) % 256) = (((UInt8.ofNat (y.toNat ^^^ (u % 256))).toNat : Nat) : Int) := by
          have hl : y.toNat ^^^ (u % 256) < 256 := Nat.xor_lt_two_pow (n := 8) (byte_lt y) (by omega)
          rw [show ((u : Int) % 256) = ((u % 256 : Nat) : Int) by omega, u8_xor_nat _ _ (byte_lt y) (by omega), UInt8.toNat_ofNat', Nat.mod_eq_of_lt hl]
        have Hz := Lib.hid hz; clear hz
        go_wp2
        go_roundw
        case rel =>
          have hst := Hown.out.stored (K + j) (byteV (UInt8.ofNat (y.toNat ^^^ (u % 256))))
          refine ⟨j + 1, x.set (K + j) (UInt8.ofNat (y.toNat ^^^ (u % 256))), by omega, by go_num, ?_, ?_, by simp [Hxl.out], fun i hi => ?_, ?_, ?_⟩
          · have : T / 256 ^ (j + 1) = u / 256 := by rw [Nat.pow_succ, ← Nat.div_div_eq_div_mul, Hu.out]
            rw [this]
            go_num
          · have e : bytesV (x.set (K + j) (UInt8.ofNat (y.toNat ^^^ (u % 256)))) = (bytesV x).set (K + j) (byteV (UInt8.ofNat (y.toNat ^^^ (u % 256)))) := by simp [bytesV, List.map_set]
            rw [e, Hz.out]
            exact hst.1
          · rw [List.getElem?_set, if_neg (by omega)]
            exact Hxo.out i (by omega)
          · rw [← Hu.out]
            exact Hso.out.step (by rw [Hxl.out, Hlen.out]) (by rw [Hxl.out]; exact Hk4.out) (Hxo.out _ (by omega)) Hyd.out
          · exact Hbw.out.setCell Hgw.out _
        case measure => simp [intOf]; omega
      · obtain rfl : j = 4 := by omega
        have hne : x ≠ s := fun e => by
          have h4 := Hso.out e
          have h5 := HT0.out.1
          have h6 := HT0.out.2
          rw [show (256 : Nat) ^ 4 = 4294967296 from by decide] at h4
          omega
        have hro : readM x = (zeroM, 4) := readM_no (turned (bs := fieldsM m) (k := K) (by rw [← Hsf.out, Hxl.out, Hlen.out]) (fun i hi => by rw [← Hsf.out]; exact Hxo.out i hi) (by rw [← Hsf.out]; exact hne))
        have Hro := Lib.hid hro
        clear hne hro
        go_wp2_with fail
        refine (Read_any (some ⟨g, 0, none⟩) n4 c4 x wr Hxl.out (by omega) Hcap.out.1 Hcap.out.2 (Seen.of_own Hown.out) Hro.out).mono ?_
        rintro e w5 ⟨N5, nn5, nc5, B5, bn5, bc5, L5, ln5, lc5, rfl, hm5, hb5⟩
        have Hb5 := Lib.hid (Hbw.out.trans (hb5.mono Hbw.out.size))
        obtain ⟨w6, hw6, hb6⟩ : ∃ w6, w5.alloc (.cells #[.int .i64 0, .slice N5 nn5 nc5, .slice B5 bn5 bc5, .slice L5 ln5 lc5] 26) = w6 ∧ Below w5.heap.size w5 w6 := ⟨_, rfl, (Below.refl _ _).alloc (Nat.le_refl _) _⟩
        have Hb6 := Lib.hid (Hb5.out.trans (hb6.mono Hb5.out.size))
        clear hm5 hb5 hb6
        go_wp2_with (first
          | (refine wpList_store_row rfl 26 (.tmp 11) (.tmp 62) rfl w5.heap.size #[.int .i64 0, .slice N5 nn5 nc5, .slice B5 bn5 bc5, .slice L5 ln5 lc5] rfl rfl 26 _ (heap_alloc_new _ _) msg_info rfl (by simp [Value.oneCell']) ?_; rw [World.setRow_alloc_new, hw6])
          | (go_at_call 9; refine (awake_any _).mono ?_; rintro e w7 ⟨rfl, hb7⟩))
        go_ret
        exact ⟨rfl, Hb6.out.trans (hb7.mono Hb6.out.size)⟩

theorem walk (m : Msg) (N B L : Option Addr) (nn nc bn bc ln lc : Nat) (a t : Int) (w : World) (h : MsgAt w m N nn nc B bn bc L ln lc) (ha : (Lit.int .i64 a).wf = true) (ht : (Lit.int .u32 t).wf = true) :
    Calls Try.prog 5 #[.agg #[.int .i64 m.k, .slice N nn nc, .slice B bn bc, .slice L ln lc], .int .i64 a, .int .u32 t] w fun e w' => e = .returned (.bool true) ∧ Below w.heap.size w w' := by
  have hb := bounds_i64 ha
  have hu := bounds_u32 ht
  exact walk_main m N B L nn nc bn bc ln lc a t w h hb.1 hb.2 hu.1 (by omega)

/-! ### THE ROW -/
theorem own : ownKnob Try.prog.godebug = none := by kernel_rfl

set_option maxRecDepth 100000 in
theorem lifted (os : Os) (started : os.Started) (H : Type) (enc : TypeId × Value → H) :
    ReturnsInHanded {} Try.checked os 5 .any (Rows.framesTurnedSpec.pre6 enc Try.prog Try.f5 Rows.framesTurnedRow.domain false) (Rows.framesTurnedSpec.post enc Try.prog Try.f5 false true false false) := by
  refine returnsInHanded_of_change (C := Try.checked) own started (by kernel_rfl) Try.func5
    (ChangeSpec.witness6 (enc := enc) (C := Try.checked) false ⟨#[], #[.agg #[.int .i64 0, .slice none 0 0, .slice none 0 0, .slice none 0 0], .int .i64 0, .int .u32 0], []⟩ 8 (by kernel_rfl) (by kernel_rfl) (by kernel_rfl) (by kernel_rfl)) ?_
  intro W base args ds gs before hval0 hW hcnd _
  have hval : ∀ (j : Nat) t v, Try.f5.params[j]? = some t → args[j]? = some v → Value.okWide Try.prog W .any base t v := hval0
  have hW' := hW
  obtain ⟨p, q, hA0, hV, rfl, hfz, hnd⟩ := hW
  have hA : DataW.TrodAll enc Try.prog W 0 (fun _ => true) true Try.f5.params.toList args.toList ds p := hA0
  rw [Try.params5] at hA hval
  obtain ⟨v0, vs0, d0, ds0, p0, q0, hargs, rfl, rfl, h0, r0⟩ := trodAll_cons hA
  obtain ⟨v1, vs1, d1, ds1, p1, q1, rfl, rfl, rfl, h1, r1⟩ := trodAll_cons r0
  obtain ⟨v2, vs2, d2, ds2, p2, q2, rfl, rfl, rfl, h2, r2⟩ := trodAll_cons r1
  obtain ⟨rfl, rfl, rfl⟩ := trodAll_nil r2
  obtain rfl : args = #[v0, v1, v2] := by cases args; simp_all
  obtain ⟨rfl, rfl⟩ := trodVars_none hV
  obtain ⟨m0, N0, nn0, nc0, B0, bn0, bc0, L0, ln0, lc0, rfl, hm0⟩ := open_msg Try.underlying26 rfl rfl rfl rfl rfl rfl rfl rfl rfl rfl rfl Try.underlying3 Try.underlying22 Try.underlying3 (by kernel_rfl) Try.underlying23 Try.underlying5 (by kernel_rfl) Try.underlying24 (by kernel_rfl) (by kernel_rfl) (by kernel_rfl) (by kernel_rfl) (by kernel_rfl) (hval 0 26 v0 rfl rfl) h0
  obtain ⟨a1, rfl, rfl, rfl, w1⟩ := open_int Try.underlying3 (hval 1 3 v1 rfl rfl) h1
  obtain ⟨a2, rfl, rfl, rfl, w2⟩ := open_int Try.underlying41 (hval 2 41 v2 rfl rfl) h2
  refine (walk m0 N0 B0 L0 nn0 nc0 bn0 bc0 ln0 lc0 a1 a2 W hm0 w1 w2).mono fun e W' ⟨he, hg⟩ => ?_
  subst he
  exact ⟨_, rfl, law_post hW' rfl (by kernel_rfl) (by kernel_rfl) (by kernel_rfl) Try.underlying4 rfl rfl rfl hg⟩

theorem over : Rows.framesTurnedRow.holds Try.pinned (OpenSpec.ofChange Rows.framesTurnedSpec) :=
  OpenClaim.holds_of_wide 5 Try.f5 rfl rfl rfl rfl rfl rfl rfl ⟨rfl, rfl, rfl, rfl, rfl⟩ rfl rfl rfl rfl rfl (by kernel_rfl) Try.func5 (by kernel_rfl)
    (of_decide_eq_true (by kernel_rfl)) (by unfold Func.isWrapper; first | (rw [if_pos (by decide +kernel)]; kernel_rfl) | (rw [if_neg (by decide +kernel)]; exact ⟨rfl, rfl⟩))
    (fun os started H enc _ => lifted os started H enc)

theorem proved : Rows.FramesTurnedSaid :=
  over
#print axioms proved

end Go.Proofs.Ytmlmkfooiikcgaa.framesTurned
