/-
  RhoThird: what one server is told of is nothing to another one: each has its own count (of up to 60 events); it holds for every input, and the argument stays as it was. No condition.
-/
import Derived.Test.YtkfhocmnkamhlaaRhoTwo
import Derived.Test.YtkfhocmnkamhlaaLaw
import Derived.Test.YtkfhocmnkamhlaaRows
import Derived.Test.YtkfhocmnkamhlaaChecked
namespace Go.Proofs.Ytkfhocmnkamhlaa.RhoThird
open Go.ChangeShapes Go.WideShapes Go.ChangeAt Go.RowKit Go.Maps
set_option linter.unusedVariables false

theorem two_of (x : UInt8) : ∃ s : Int, (wrap64 (x.toNat : Int)).tmod 2 = s ∧ (s = 0 ∨ s = 1) := by
  have hx := x.toNat_lt
  have e : wrap64 (x.toNat : Int) = (x.toNat : Int) := by unfold wrap64; omega
  refine ⟨_, rfl, ?_⟩
  rw [e, Int.tmod_eq_emod_of_nonneg (by omega)]
  omega
theorem eq_zero {fa fb : Int → Cn} {s : Int} {c : Cn} (h : fa 0 = fb 0) : updC fa s (addC (fa s) c) 0 = updC fb s (addC (fb s) c) 0 := by
  by_cases hs : s = 0
  · subst hs
    rw [updC_same, updC_same, h]
  · rw [updC_other (fun e => hs e.symm), updC_other (fun e => hs e.symm), h]
set_option maxRecDepth 100000 in
set_option maxHeartbeats 4000000 in
theorem walkIn (A : Option Addr) (n c : Nat) (bs : List UInt8) (w : World) (hn : bs.length = n) (hs : Seen w A (bytesV bs)) (h60 : n ≤ 60) :
    Calls Try.prog 6 #[.slice A n c] w fun e w' => e = .returned (.bool true) ∧ Below w.heap.size w w' := by
  have Hn := Lib.hid hn; have Hs := Lib.hid hs
  clear hn hs
  have h1 : ¬ (n : Int) > 60 := by omega
  obtain ⟨W0, hW0⟩ : ∃ W0, w.alloc (.cells #[.int .i64 0, .int .i64 0, .map none] 28) = W0 := ⟨_, rfl⟩
  obtain ⟨W1, hW1⟩ : ∃ W1, W0.alloc (.cells #[.int .i64 0, .int .i64 0, .map none] 28) = W1 := ⟨_, rfl⟩
  have hz : W0.heap.size = w.heap.size + 1 := by rw [← hW0]; simp
  have H1 := Lib.hid (show TwoT W1 w.heap.size 0 w.heap.size (w.heap.size + 1) (0, 0) (fun _ => (0, 0)) (0, 0) (fun _ => (0, 0)) by rw [← hW1, ← hW0]; exact TwoT.new w)
  have B1 := Lib.hid (show Below w.heap.size w W1 by rw [← hW1, ← hW0]; exact ((Below.refl _ _).alloc (Nat.le_refl _) _).alloc (by simp) _)
  go_enter Try.func6, Try.ntmps6
  go_wp2
  clear hW1 hW0
  go_loopw [5] (fun iv wr => ∃ (i : Nat) (t : Cn) (fa fb : Int → Cn), iv = .int .i64 (i : Int) ∧ i ≤ n ∧ TwoT wr w.heap.size (5 * i) w.heap.size (w.heap.size + 1) t fa t fb ∧ fa 0 = fb 0 ∧ fb 5 = (0, 0) ∧ Below w.heap.size w wr) (fun iv _ => n - (intOf iv).toNat)
  case atStart => exact ⟨0, (0, 0), fun _ => (0, 0), fun _ => (0, 0), rfl, by omega, H1.out, rfl, rfl, B1.out⟩
  case round =>
    obtain ⟨i, t, fa, fb, rfl, hin, hh, hf, h5, hb⟩ := hrel
    have Hh := Lib.hid hh; have Hf := Lib.hid (And.intro hf h5); have Hb := Lib.hid hb
    clear hh hf h5 hb
    by_cases hi : i < n
    · obtain ⟨g, o, x, rfl, hx, hxt, hc0⟩ := Hs.out.byteAt (j := i) (by have := Hn.out; omega)
      have i0 : (0 : Int) ≤ (i : Int) := by omega
      have i1 : (i : Int) < (n : Int) := by omega
      clear hx hxt
      have H2s := two_of x
      obtain ⟨y, hy⟩ : ∃ y : Int, (x.toNat : Int) = y := ⟨_, rfl⟩
      rw [hy] at hc0 H2s
      clear hy
      have hlt := block_lt_of_cell hc0
      have hc := (Hb.out.cell hlt).trans hc0
      have Hc0 := Lib.hid (And.intro hlt hc0)
      clear hlt hc0
      obtain ⟨s, es, hs2⟩ : ∃ s : Int, (wrap64 y).tmod 2 = s ∧ (s = 0 ∨ s = 1) := H2s
      obtain ⟨p, ep⟩ : ∃ p : Int, wrap64 (1 + (wrap64 ((wrap64 y).tdiv 2)).tmod 2) = p := ⟨_, rfl⟩
      have HS := Lib.hid hs2
      have Hfa := Lib.hid (eq_zero (c := oneC p) Hf.out.1 (s := s))
      have Hfb := Lib.hid (show updC fb s (addC (fb s) (oneC p)) 5 = (0, 0) by rw [updC_other (by omega)]; exact Hf.out.2)
      have Hsb := Lib.hid (show -9223372036854775808 ≤ s ∧ s ≤ 9223372036854775807 by omega)
      clear hs2
      go_wp2_with fail
      refine (DoneA_any w.heap.size (5 * i) w.heap.size (w.heap.size + 1) t fa t fb s p wr Hh.out Hb.out.size Hsb.out (by omega)).mono ?_
      rintro e w2 ⟨rfl, h2, b2⟩
      have H2 := Lib.hid h2; have B2 := Lib.hid (Hb.out.trans b2)
      have hc2 := (B2.out.cell Hc0.out.1).trans Hc0.out.2
      clear h2 b2 hc
      go_wp2_with fail
      refine (DoneB_any w.heap.size (5 * i + 2) w.heap.size (w.heap.size + 1) _ _ t fb s p w2 H2.out B2.out.size Hsb.out (by omega)).mono ?_
      rintro e w3 ⟨rfl, h3, b3⟩
      have H3 := Lib.hid h3; have B3 := Lib.hid (B2.out.trans b3)
      have hc3 := (B3.out.cell Hc0.out.1).trans Hc0.out.2
      clear h3 b3 hc2
      by_cases hx : y > 128
      · go_wp2_with fail
        refine (BeginA_any w.heap.size (5 * i + 2 + 2) w.heap.size (w.heap.size + 1) _ _ _ _ 5 w3 H3.out B3.out.size (by omega) (by omega)).mono ?_
        rintro e w4 ⟨rfl, h4, b4⟩
        have H4 := Lib.hid h4; have B4 := Lib.hid (B3.out.trans b4)
        clear h4 b4
        go_wp2
        go_roundw
        case rel => exact ⟨i + 1, _, _, _, by go_num, by omega, H4.out.mono (by omega), by rw [updC_other (by decide)]; exact Hfa.out, Hfb.out, B4.out⟩
        case measure => simp [intOf]; omega
      · go_wp2
        go_roundw
        case rel => exact ⟨i + 1, _, _, _, by go_num, by omega, H3.out.mono (by omega), Hfa.out, Hfb.out, B3.out⟩
        case measure => simp [intOf]; omega
    · obtain rfl : i = n := by omega
      have i1 : ¬ (i : Int) < (i : Int) := by omega
      have E := Lib.hid (show subC t (updC fb 0 t 5) = t by rw [updC_other (by decide), Hf.out.2]; unfold subC; simp)
      have E2 := Lib.hid (show subC t (fa 0) = subC t (fb 0) by rw [Hf.out.1])
      obtain ⟨dv, hdv⟩ : ∃ dv, subC t (fb 0) = dv := ⟨_, rfl⟩
      have K1 := Lib.hid (show Calls _ _ _ _ _ from BeginA_any w.heap.size (5 * i) w.heap.size (w.heap.size + 1) t fa t fb 0 wr Hh.out Hb.out.size (by omega) (by omega))
      rw [E2.out, hdv] at K1
      have Hdv := Lib.hid hdv
      clear hdv E2
      go_wp2_with fail
      refine K1.out.mono ?_
      rintro e w2 ⟨rfl, h2, b2⟩
      have H2 := Lib.hid h2; have B2 := Lib.hid (Hb.out.trans b2)
      clear h2 b2
      have K2 := Lib.hid (show Calls _ _ _ _ _ from BeginB_any w.heap.size (5 * i + 1) w.heap.size (w.heap.size + 1) t (updC fa 0 t) t fb 0 w2 H2.out B2.out.size (by omega) (by omega))
      rw [Hdv.out] at K2
      go_wp2_with fail
      refine K2.out.mono ?_
      rintro e w3 ⟨rfl, h3, b3⟩
      have H3 := Lib.hid h3; have B3 := Lib.hid (B2.out.trans b3)
      clear h3 b3
      have K3 := Lib.hid (show Calls _ _ _ _ _ from BeginB_any w.heap.size (5 * i + 1 + 1) w.heap.size (w.heap.size + 1) t (updC fa 0 t) t (updC fb 0 t) 5 w3 H3.out B3.out.size (by omega) (by omega))
      rw [E.out] at K3
      go_wp2_with fail
      refine K3.out.mono ?_
      rintro e w4 ⟨rfl, h4, b4⟩
      have H4 := Lib.hid h4; have B4 := Lib.hid (B3.out.trans b4)
      clear h4 b4
      go_wp2_with (first
        | (go_at_call 11; refine (TotalB_any w.heap.size _ w.heap.size (w.heap.size + 1) _ _ _ _ w4 H4.out).mono ?_; rintro e w5 ⟨rfl, b5⟩; have B5 := Lib.hid (B4.out.trans (b5.mono B4.out.size)); clear b5)
        | (go_at_call 7; refine (awake_any w5).mono ?_; rintro e w6 ⟨rfl, b6⟩; have B6 := Lib.hid (B5.out.trans (b6.mono B5.out.size)); clear b6))
      go_ret
      exact ⟨rfl, B6.out⟩

theorem walk (A : Option Addr) (n c : Nat) (bs : List UInt8) (w : World) (hn : bs.length = n) (hnc : n ≤ c) (hcm : c ≤ maxLen) (hs : Seen w A (bytesV bs)) :
    Calls Try.prog 6 #[.slice A n c] w fun e w' => e = .returned (.bool true) ∧ Below w.heap.size w w' := by
  by_cases h1 : n ≤ 60
  · exact walkIn A n c bs w hn hs h1
  · have h2 : (n : Int) > 60 := by omega
    go_enter Try.func6, Try.ntmps6
    go_wp2_with (go_at_call 7; refine (awake_any w).mono ?_; rintro e w4 ⟨rfl, hb4⟩; have B4 := Lib.hid hb4; clear hb4)
    go_ret
    exact ⟨rfl, B4.out⟩

/-! ### THE ROW -/
theorem own : ownKnob Try.prog.godebug = none := by kernel_rfl

set_option maxRecDepth 100000 in
theorem lifted (os : Os) (started : os.Started) (H : Type) (enc : TypeId × Value → H) :
    ReturnsInHanded {} Try.checked os 6 .any (Rows.rhoThirdSpec.pre6 enc Try.prog Try.f6 Rows.rhoThirdRow.domain false) (Rows.rhoThirdSpec.post enc Try.prog Try.f6 false true false false) := by
  refine returnsInHanded_of_change (C := Try.checked) own started (by kernel_rfl) Try.func6
    (ChangeSpec.witness6 (enc := enc) (C := Try.checked) false ⟨#[], #[.slice none 0 0], []⟩ 8 (by kernel_rfl) (by kernel_rfl) (by kernel_rfl) (by kernel_rfl)) ?_
  intro W base args ds gs before hval0 hW hcnd _
  have hval : ∀ (j : Nat) t v, Try.f6.params[j]? = some t → args[j]? = some v → Value.okWide Try.prog W .any base t v := hval0
  have hW' := hW
  obtain ⟨p, q, hA0, hV, rfl, hfz, hnd⟩ := hW
  have hA : DataW.TrodAll enc Try.prog W 0 (fun _ => true) true Try.f6.params.toList args.toList ds p := hA0
  rw [Try.params6] at hA hval
  obtain ⟨v0, vs0, d0, ds0, p0, q0, hargs, rfl, rfl, h0, r0⟩ := trodAll_cons hA
  obtain ⟨rfl, rfl, rfl⟩ := trodAll_nil r0
  obtain rfl : args = #[v0] := by cases args; simp_all
  obtain ⟨rfl, rfl⟩ := trodVars_none hV
  obtain ⟨A0, n0, c0, bs0, rfl, hn0, hnc0, hcm0, hsee0⟩ := open_bytes Try.underlying40 Try.underlying5 (by kernel_rfl) (hval 0 40 v0 rfl rfl) h0
  refine (walk A0 n0 c0 bs0 W hn0 hnc0 hcm0 hsee0).mono fun e W' ⟨he, hg⟩ => ?_
  subst he
  exact ⟨_, rfl, law_post hW' rfl (by kernel_rfl) (by kernel_rfl) (by kernel_rfl) Try.underlying4 rfl rfl rfl hg⟩

theorem over : Rows.rhoThirdRow.holds Try.pinned (OpenSpec.ofChange Rows.rhoThirdSpec) :=
  OpenClaim.holds_of_wide 6 Try.f6 rfl rfl rfl rfl rfl rfl rfl ⟨rfl, rfl, rfl, rfl, rfl⟩ rfl rfl rfl rfl rfl (by kernel_rfl) Try.func6 (by kernel_rfl)
    (of_decide_eq_true (by kernel_rfl)) (by unfold Func.isWrapper; first | (rw [if_pos (by decide +kernel)]; kernel_rfl) | (rw [if_neg (by decide +kernel)]; exact ⟨rfl, rfl⟩))
    (fun os started H enc _ => lifted os started H enc)

theorem proved : Rows.RhoThirdSaid :=
  over
#print axioms proved

end Go.Proofs.Ytkfhocmnkamhlaa.RhoThird
