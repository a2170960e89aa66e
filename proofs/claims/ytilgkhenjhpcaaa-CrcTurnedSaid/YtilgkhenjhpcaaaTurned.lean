/- For any bytes b, any int at and any uint32 turn, CrcTurned returns true: what is sealed, with up to 32 bits in a row turned, isn't opened; bytes longer than 1000, or a turn of 0, ask the document's example alone. Conditions: none. -/
import Derived.Test.YtilgkhenjhpcaaaRows
import Derived.Test.YtilgkhenjhpcaaaLaw
import Derived.Test.YtilgkhenjhpcaaaCrcF
namespace Go.Proofs.Ytilgkhenjhpcaaa.crcTurned
open Go.ChangeShapes Go.WideShapes Go.ChangeAt Go.RowKit
set_option linter.unusedVariables false

theorem own : ownKnob Try.prog.godebug = none := by kernel_rfl

theorem Open_no (A : Option Addr) (n c : Nat) (bs : List UInt8) (w : World) (hn : bs.length = n) (hl : n ≤ 900000) (hc : n ≤ c) (hcm : c ≤ maxLen) (h : Seen w A (bytesV bs)) (hf : openB bs = false) :
    Calls Try.prog 14 #[.slice A n c] w fun e w' => e = .returned (.tuple #[.slice none 0 0, .bool false]) ∧ Below w.heap.size w w' := by
  have := Open_any A n c bs w hn hl hc hcm h
  rw [hf] at this
  simpa using this

theorem own_cap {w : World} {base g n c : Nat} {e : TypeId} {xs : List Value} (h : w.ownsRow base e 1 (.slice (some ⟨g, 0, none⟩) n c) n xs) : n ≤ c ∧ c ≤ maxLen := by
  rcases h.2 with ⟨hv, _⟩ | ⟨g', cap, cur, hv, _, _, h1, h2, _⟩
  · cases hv
  · injection hv with _ _ h3
    subst h3
    exact ⟨h1, h2⟩
theorem walk_awake (A : Option Addr) (n c : Nat) (a t : Int) (w : World) (h : 1000 < n ∨ t = 0) (hm : n ≤ maxLen) :
    Calls Try.prog 5 #[.slice A n c, .int .i64 a, .int .u32 t] w fun e w' => e = .returned (.bool true) ∧ Below w.heap.size w w' := by
  by_cases h1 : 1000 < n
  · go_enter Try.func5, Try.ntmps5
    go_wp2_with (go_at_call 7; refine (awake_any _).mono ?_; rintro e w' ⟨rfl, hb⟩)
    go_ret
    exact ⟨rfl, hb⟩
  · obtain rfl : t = 0 := by omega
    go_enter Try.func5, Try.ntmps5
    go_wp2_with (go_at_call 7; refine (awake_any _).mono ?_; rintro e w' ⟨rfl, hb⟩)
    go_ret
    exact ⟨rfl, hb⟩

theorem walk_main (A : Option Addr) (n c t : Nat) (a : Int) (bs : List UInt8) (w : World) (hn : bs.length = n) (hnc : n ≤ c) (hcm : c ≤ maxLen) (h : Seen w A (bytesV bs)) (h1 : n ≤ 1000) (ht0 : 0 < t) (ht : t < 4294967296) (ha1 : -9223372036854775808 ≤ a) (ha2 : a ≤ 9223372036854775807) :
    Calls Try.prog 5 #[.slice A n c, .int .i64 a, .int .u32 (t : Int)] w fun e w' => e = .returned (.bool true) ∧ Below w.heap.size w w' := by
  have Hh := Lib.hid h; clear h
  have Hn := Lib.hid hn
  have e1 := Int.emod_nonneg a (show (n : Int) + 4 ≠ 0 by omega)
  have e2 := Int.emod_lt_of_pos a (show 0 < (n : Int) + 4 by omega)
  obtain ⟨K, hK⟩ : ∃ K : Nat, a % ((n : Int) + 4) = K := ⟨(a % ((n : Int) + 4)).toNat, by omega⟩
  have hKl : K < n + 4 := by omega
  have HK := Lib.hid hK
  clear hK e1 e2
  have el : (bytesV (sealOf bs)).length = n + 4 := by rw [bytes_length, sealOf_length, hn]
  have El := Lib.hid el
  clear el
  subst hn
  have ht1 : ((t : Int) == 0) = false := by simp; omega
  have hd1 : decide ((1000 : Int) < (bs.length : Int)) = false := by simp; omega
  clear Hn
  go_enter Try.func5, Try.ntmps5
  go_wp2_with (first | (go_at_call 12; refine (Seal_any A c bs _ Hh.out (by omega)).mono ?_; rintro e w1 ⟨A1, c1, rfl, hown1, hb1⟩; rw [El.out] at hown1 ⊢; have Hown1 := Lib.hid hown1; have Hb1 := Lib.hid hb1; clear hown1 hb1) | (go_at_call 8; refine (Pick_any a _ _ ha1 ha2 (by omega) (by omega)).mono ?_; rintro e w' ⟨rfl, rfl⟩; rw [HK.out]))
  obtain ⟨g, cc, hf, hg1, hg2⟩ := Hown1.out.form (by omega)
  injection hf with hf1 _ hf2
  subst hf1
  subst hf2
  have Hseal := Lib.hid (sealOf_length bs)
  have hcc : bs.length + 4 ≤ c1 ∧ c1 ≤ maxLen := own_cap Hown1.out
  have Hc1 := Lib.hid hcc; clear hcc
  go_loopw [2, 9] (fun tv i wr => ∃ (j : Nat) (x : List UInt8) (u : Nat), j ≤ 4 ∧ i = .int .i64 j ∧ tv = .int .u32 (u : Int) ∧ u < 4294967296 ∧ wr.ownsRow w.heap.size 5 1 (.slice (some ⟨g, 0, none⟩) (bs.length + 4) c1) (bs.length + 4) (bytesV x) ∧ x.length = bs.length + 4 ∧ (∀ i : Nat, i < K ∨ K + j ≤ i → x[i]? = (sealOf bs)[i]?) ∧ Below w.heap.size w wr) (fun _ i _ => 4 - (intOf i).toNat)
  case atStart => exact ⟨0, sealOf bs, t, by omega, rfl, rfl, ht, Hown1.out, Hseal.out, fun _ _ => rfl, Hb1.out⟩
  case round =>
    obtain ⟨j, x, u, hj, rfl, rfl, hu, hown, hxl, hxo, hbw⟩ := hrel
    have Hown := Lib.hid hown; clear hown
    have Hxo := Lib.hid hxo; clear hxo
    have Hxl := Lib.hid hxl; clear hxl
    have Hbw := Lib.hid hbw; clear hbw
    by_cases hgo : j < 4 ∧ K + j < bs.length + 4
    · obtain ⟨hj4, hk4⟩ := hgo
      have hy : (bytesV x)[K + j]? = some (byteV (x.getD (K + j) 0)) := by
        have := Hxl.out
        simp [bytesV, List.getD, List.getElem?_eq_getElem (show K + j < x.length by omega)]
      have hcell : wr.cell? ⟨g, K + j, none⟩ = some (byteV (x.getD (K + j) 0)) := by rw [Hown.out.cellAt (K + j) (by omega)]; exact hy
      have hfz := Hown.out.frozenAt (K + j)
      clear hy
      generalize x.getD (K + j) 0 = y at hcell
      unfold byteV at hcell
      have b0 : (0 : Int) ≤ (K : Int) + (j : Int) := by omega
      have b1 : (K : Int) + (j : Int) < (bs.length : Int) + 4 := by omega
      have hz : bits .xor .u8 ((y.toNat : Nat) : Int) ((u : Int) % 256) = (((UInt8.ofNat (y.toNat ^^^ (u % 256))).toNat : Nat) : Int) := by
        have hl : y.toNat ^^^ (u % 256) < 256 := Nat.xor_lt_two_pow (n := 8) (byte_lt y) (by omega)
        rw [show ((u : Int) % 256) = ((u % 256 : Nat) : Int) by omega, u8_xor_nat _ _ (byte_lt y) (by omega), UInt8.toNat_ofNat', Nat.mod_eq_of_lt hl]
      have Hz := Lib.hid hz; clear hz
      go_wp2
      go_roundw
      case rel =>
        have hst := Hown.out.stored (K + j) (byteV (UInt8.ofNat (y.toNat ^^^ (u % 256))))
        refine ⟨j + 1, x.set (K + j) (UInt8.ofNat (y.toNat ^^^ (u % 256))), u / 256, by omega, by go_num, by go_num, by omega, ?_, by simp [Hxl.out], fun i hi => ?_, ?_⟩
        · have e : bytesV (x.set (K + j) (UInt8.ofNat (y.toNat ^^^ (u % 256)))) = (bytesV x).set (K + j) (byteV (UInt8.ofNat (y.toNat ^^^ (u % 256)))) := by simp [bytesV, List.map_set]
          rw [e, Hz.out]
          exact hst.1
        · rw [List.getElem?_set, if_neg (by omega)]
          exact Hxo.out i (by omega)
        · exact Hbw.out.setCell hg1 _
      case measure => simp [intOf]; omega
    · by_cases hj4 : j < 4
      all_goals
        have hxo4 : ∀ i : Nat, i < K ∨ K + 4 ≤ i → x[i]? = (sealOf bs)[i]? := fun i hi => by
          by_cases hin : i < K ∨ K + j ≤ i
          · exact Hxo.out i hin
          · omega
        have Hxo4 := Lib.hid hxo4; clear hxo4
        by_cases hsame : x = sealOf bs
        · have hd : decide (x = sealOf bs) = true := decide_eq_true hsame
          have Hd := Lib.hid hd
          clear hd hsame
          go_wp2_with (first | (go_at_call 13; refine (RSeal_any A _ c bs _ rfl (Hh.out.below (Hbw.out)) (by omega)).mono ?_; rintro e w2 ⟨A2, c2, rfl, hown2, hb2⟩; rw [El.out] at hown2 ⊢; have Hown2 := Lib.hid hown2; have Hb2 := Lib.hid hb2; clear hown2 hb2) | (go_at_call 11; refine (Same_any _ A2 _ _ c1 c2 x (sealOf bs) _ Hxl.out Hseal.out (Seen.of_own (own_below Hown.out Hb2.out)) (Seen.of_own Hown2.out) (by omega)).mono ?_; rintro e w3 ⟨rfl, hb3⟩; rw [Hd.out]; have Hb3 := Lib.hid ((Hbw.out.trans (Hb2.out.mono Hbw.out.size)).trans (hb3.mono (Nat.le_trans Hbw.out.size Hb2.out.size))); clear hb3) | (go_at_call 7; refine (awake_any _).mono ?_; rintro e w4 ⟨rfl, hb4⟩))
          go_ret
          exact ⟨rfl, Hb3.out.trans (hb4.mono Hb3.out.size)⟩
        · have hd : decide (x = sealOf bs) = false := decide_eq_false hsame
          have ho : openB x = false := turned (by rw [Hxl.out, Hseal.out]) Hxo4.out hsame
          have Hd := Lib.hid hd
          have Ho := Lib.hid ho
          clear hd hsame ho
          go_wp2_with (first | (go_at_call 13; refine (RSeal_any A _ c bs _ rfl (Hh.out.below (Hbw.out)) (by omega)).mono ?_; rintro e w2 ⟨A2, c2, rfl, hown2, hb2⟩; rw [El.out] at hown2 ⊢; have Hown2 := Lib.hid hown2; have Hb2 := Lib.hid hb2; clear hown2 hb2) | (go_at_call 11; refine (Same_any _ A2 _ _ c1 c2 x (sealOf bs) _ Hxl.out Hseal.out (Seen.of_own (own_below Hown.out Hb2.out)) (Seen.of_own Hown2.out) (by omega)).mono ?_; rintro e w3 ⟨rfl, hb3⟩; rw [Hd.out]; have Hb3 := Lib.hid hb3; clear hb3) | (go_at_call 14; refine (Open_no _ _ c1 x _ Hxl.out (by omega) Hc1.out.1 Hc1.out.2 (Seen.of_own (own_below (own_below Hown.out Hb2.out) Hb3.out)) Ho.out).mono ?_; rintro e w4 ⟨rfl, hb4⟩; have Hb4 := Lib.hid (((Hbw.out.trans (Hb2.out.mono Hbw.out.size)).trans (Hb3.out.mono (Nat.le_trans Hbw.out.size Hb2.out.size))).trans (hb4.mono (Nat.le_trans (Nat.le_trans Hbw.out.size Hb2.out.size) Hb3.out.size))); clear hb4) | (go_at_call 7; refine (awake_any _).mono ?_; rintro e w5 ⟨rfl, hb5⟩))
          go_ret
          exact ⟨rfl, Hb4.out.trans (hb5.mono Hb4.out.size)⟩

/-! ### THE ROW -/
theorem walk (A : Option Addr) (n c : Nat) (a t : Int) (bs : List UInt8) (w : World) (hn : bs.length = n) (hnc : n ≤ c) (hcm : c ≤ maxLen) (h : Seen w A (bytesV bs)) (ha : (Lit.int .i64 a).wf = true) (ht : (Lit.int .u32 t).wf = true) :
    Calls Try.prog 5 #[.slice A n c, .int .i64 a, .int .u32 t] w fun e w' => e = .returned (.bool true) ∧ Below w.heap.size w w' := by
  have hb := bounds_i64 ha
  have hu := bounds_u32 ht
  by_cases h1 : 1000 < n ∨ t = 0
  · exact walk_awake A n c a t w h1 (by omega)
  · obtain ⟨u, rfl⟩ : ∃ u : Nat, t = u := ⟨t.toNat, by omega⟩
    exact walk_main A n c u a bs w hn hnc hcm h (by omega) (by omega) (by omega) hb.1 hb.2

set_option maxRecDepth 100000 in
theorem lifted (os : Os) (started : os.Started) (H : Type) (enc : TypeId × Value → H) :
    ReturnsInHanded {} Try.checked os 5 .any (Rows.crcTurnedSpec.pre6 enc Try.prog Try.f5 Rows.crcTurnedRow.domain false) (Rows.crcTurnedSpec.post enc Try.prog Try.f5 false true false false) := by
  refine returnsInHanded_of_change (C := Try.checked) own started (by kernel_rfl) Try.func5
    (ChangeSpec.witness6 (enc := enc) (C := Try.checked) false ⟨#[], #[.slice none 0 0, .int .i64 0, .int .u32 0], []⟩ 8 (by kernel_rfl) (by kernel_rfl) (by kernel_rfl) (by kernel_rfl)) ?_
  intro W base args ds gs before hval0 hW hcnd _
  have hval : ∀ (j : Nat) t v, Try.f5.params[j]? = some t → args[j]? = some v → Value.okWide Try.prog W .any base t v := hval0
  have hW' := hW
  obtain ⟨p, q, hA0, hV, rfl, hfz, hnd⟩ := hW
  have hA : DataW.TrodAll enc Try.prog W 0 (fun _ => true) true Try.f5.params.toList args.toList ds p := hA0
  rw [Try.params5] at hA hval
  obtain ⟨v0, vs0, d0, ds0, p0, q0, hargs, rfl, rfl, h0, r0⟩ := trodAll_cons hA
  obtain ⟨v1, vs1, d1, ds1, p1, q1, rfl, rfl, rfl, h1, r1⟩ := trodAll_cons r0
  obtain ⟨v2, vs2, d2, ds2, p2, q2, rfl, rfl, rfl, h2, r2⟩ := trodAll_cons r1
  obtain ⟨rfl, rfl, rfl⟩ := trodAll_nil r2
  obtain rfl : args = #[v0, v1, v2] := by cases args; simp_all
  obtain ⟨rfl, rfl⟩ := trodVars_none hV
  obtain ⟨A, n, c, bs, rfl, hn, hnc, hcm, hsee⟩ := open_bytes Try.underlying22 Try.underlying5 (by kernel_rfl) (hval 0 22 v0 rfl rfl) h0
  obtain ⟨a1, rfl, rfl, rfl, w1⟩ := open_int Try.underlying3 (hval 1 3 v1 rfl rfl) h1
  obtain ⟨a2, rfl, rfl, rfl, w2⟩ := open_int Try.underlying25 (hval 2 25 v2 rfl rfl) h2
  refine (walk A n c a1 a2 bs W hn hnc hcm hsee w1 w2).mono fun e W' ⟨he, hg⟩ => ?_
  subst he
  exact ⟨_, rfl, law_post hW' rfl (by kernel_rfl) (by kernel_rfl) (by kernel_rfl) Try.underlying4 rfl rfl rfl hg⟩

theorem over : Rows.crcTurnedRow.holds Try.pinned (OpenSpec.ofChange Rows.crcTurnedSpec) :=
  OpenClaim.holds_of_wide 5 Try.f5 rfl rfl rfl rfl rfl rfl rfl ⟨rfl, rfl, rfl, rfl, rfl⟩ rfl rfl rfl rfl rfl (by kernel_rfl) Try.func5 (by kernel_rfl)
    (of_decide_eq_true (by kernel_rfl)) (by unfold Func.isWrapper; first | (rw [if_pos (by decide +kernel)]; kernel_rfl) | (rw [if_neg (by decide +kernel)]; exact ⟨rfl, rfl⟩))
    (fun os started H enc _ => lifted os started H enc)

theorem proved : Rows.CrcTurnedSaid :=
  over
#print axioms proved
end Go.Proofs.Ytilgkhenjhpcaaa.crcTurned
