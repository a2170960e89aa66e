/-
  RhoAlone: with one server alone nothing is ever done elsewhere (of up to 100 events); it holds for every input, and the arguments stay as they were. No condition.
-/
import Derived.Test.YtkfhocmnkamhlaaRhoA
import Derived.Test.YtkfhocmnkamhlaaLaw
import Derived.Test.YtkfhocmnkamhlaaRows
import Derived.Test.YtkfhocmnkamhlaaChecked
namespace Go.Proofs.Ytkfhocmnkamhlaa.RhoAlone
open Go.ChangeShapes Go.WideShapes Go.ChangeAt Go.RowKit Go.Maps
set_option linter.unusedVariables false

theorem mod3 (x : Nat) : ((x : Int).tmod 3 = 0) ∨ ((x : Int).tmod 3 = 1) ∨ ((x : Int).tmod 3 = 2) := by
  rw [Int.tmod_eq_emod_of_nonneg (by omega)]
  omega
theorem ones {t c : Cn} {f : Int → Cn} {s : Int} (h : f s = t) : updC f s (addC (f s) c) s = addC t c := by rw [updC_same, h]

set_option maxRecDepth 100000 in
set_option maxHeartbeats 4000000 in
theorem walkIn (A : Option Addr) (n c : Nat) (bs : List UInt8) (s : Int) (w : World) (hn : bs.length = n) (hs : Seen w A (bytesV bs)) (hq : -9223372036854775808 ≤ s ∧ s ≤ 9223372036854775807) (h100 : n ≤ 100) :
    Calls Try.prog 5 #[.slice A n c, .int .i64 s] w fun e w' => e = .returned (.bool true) ∧ Below w.heap.size w w' := by
  have Hn := Lib.hid hn; have Hs := Lib.hid hs; have Hq := Lib.hid hq
  clear hn hs hq
  have h1 : ¬ (n : Int) > 100 := by omega
  obtain ⟨W1, hW1⟩ : ∃ W1, w.alloc (.cells #[.int .i64 0, .int .i64 0, .map none] 28) = W1 := ⟨_, rfl⟩
  have H1 := Lib.hid (show TrkAt W1 w.heap.size w.heap.size 0 none (0, 0) (fun _ => (0, 0)) by rw [← hW1]; exact new_trk w)
  have B1 := Lib.hid (show Below w.heap.size w W1 by rw [← hW1]; exact (Below.refl _ _).alloc (Nat.le_refl _) _)
  go_enter Try.func5, Try.ntmps5
  go_wp2
  clear hW1
  go_loopw [6, 7] (fun nv iv wr => ∃ (i k : Nat) (m : Option Nat) (t : Cn) (f : Int → Cn), nv = .int .i64 (k : Int) ∧ iv = .int .i64 (i : Int) ∧ i ≤ n ∧ k ≤ i ∧ TrkAt wr w.heap.size w.heap.size (2 * i) m t f ∧ f s = t ∧ t.1 = (k : Int) ∧ Below w.heap.size w wr) (fun _ iv _ => n - (intOf iv).toNat)
  case atStart => exact ⟨0, 0, none, (0, 0), fun _ => (0, 0), rfl, rfl, by omega, by omega, H1.out, rfl, rfl, B1.out⟩
  case round =>
    obtain ⟨i, k, m, t, f, rfl, rfl, hin, hki, hh, hf, ht, hb⟩ := hrel
    have Hh := Lib.hid hh; have Hf := Lib.hid hf; have Ht := Lib.hid ht; have Hb := Lib.hid hb
    clear hh hf ht hb
    by_cases hi : i < n
    · obtain ⟨g, o, x, rfl, hx, hxt, hc⟩ := (Hs.out.below Hb.out).byteAt (j := i) (by have := Hn.out; omega)
      have i0 : (0 : Int) ≤ (i : Int) := by omega
      have i1 : (i : Int) < (n : Int) := by omega
      clear hx hxt
      rcases mod3 x.toNat with hm | hm | hm
      · have Hz := Lib.hid (show t.1 - (f s).1 = 0 ∧ t.2 - (f s).2 = 0 by rw [Hf.out]; omega)
        go_wp2_with (go_at_call 8; refine (Begin_any w.heap.size w.heap.size (2 * i) m t f s wr Hh.out Hb.out.size Hq.out (by omega)).mono ?_; rintro e w2 ⟨rfl, m2, h2, t2, -⟩; rw [Hz.out.1, Hz.out.2]; have H2 := Lib.hid h2; have B2 := Lib.hid (Hb.out.trans (Hh.out.over Hb.out.size t2)); clear h2 t2)
        go_roundw
        case rel => exact ⟨i + 1, k, m2, t, updC f s t, rfl, by go_num, by omega, by omega, H2.out.mono (by omega), updC_same _ _ _, Ht.out, B2.out⟩
        case measure => simp [intOf]; omega
      · have Hw := Lib.hid (show (oneC 1).1 = 1 from rfl)
        go_wp2_with (go_at_call 10; refine (Done_any w.heap.size w.heap.size (2 * i) m t f s 1 wr Hh.out Hb.out.size Hq.out (by omega)).mono ?_; rintro e w2 ⟨rfl, m2, h2, t2, -⟩; have H2 := Lib.hid h2; have B2 := Lib.hid (Hb.out.trans (Hh.out.over Hb.out.size t2)); clear h2 t2)
        go_roundw
        case rel => exact ⟨i + 1, k + 1, m2, addC t (oneC 1), _, by go_num, by go_num, by omega, by omega, H2.out.mono (by omega), ones Hf.out, by have := Ht.out; have := Hw.out; simp only [addC]; omega, B2.out⟩
        case measure => simp [intOf]; omega
      · have Hw := Lib.hid (show (oneC 2).1 = 1 from rfl)
        go_wp2_with (go_at_call 10; refine (Done_any w.heap.size w.heap.size (2 * i) m t f s 2 wr Hh.out Hb.out.size Hq.out (by omega)).mono ?_; rintro e w2 ⟨rfl, m2, h2, t2, -⟩; have H2 := Lib.hid h2; have B2 := Lib.hid (Hb.out.trans (Hh.out.over Hb.out.size t2)); clear h2 t2)
        go_roundw
        case rel => exact ⟨i + 1, k + 1, m2, addC t (oneC 2), _, by go_num, by go_num, by omega, by omega, H2.out.mono (by omega), ones Hf.out, by have := Ht.out; have := Hw.out; simp only [addC]; omega, B2.out⟩
        case measure => simp [intOf]; omega
    · obtain rfl : i = n := by omega
      have i1 : ¬ (i : Int) < (i : Int) := by omega
      go_wp2_with (first
        | (go_at_call 11; refine (Total_any w.heap.size w.heap.size (2 * i) m t f wr Hh.out).mono ?_; rintro e w2 ⟨rfl, b2⟩; rw [Ht.out]; have B2 := Lib.hid (Hb.out.trans (b2.mono Hb.out.size)); clear b2)
        | (go_at_call 7; refine (awake_any w2).mono ?_; rintro e w4 ⟨rfl, hb4⟩; have B4 := Lib.hid (B2.out.trans (hb4.mono B2.out.size)); clear hb4))
      go_ret
      exact ⟨rfl, B4.out⟩

theorem walk (A : Option Addr) (n c : Nat) (bs : List UInt8) (s : Int) (w : World) (hn : bs.length = n) (hnc : n ≤ c) (hcm : c ≤ maxLen) (hs : Seen w A (bytesV bs)) (hq : (Lit.int .i64 s).wf = true) :
    Calls Try.prog 5 #[.slice A n c, .int .i64 s] w fun e w' => e = .returned (.bool true) ∧ Below w.heap.size w w' := by
  by_cases h1 : n ≤ 100
  · exact walkIn A n c bs s w hn hs (bounds_i64 hq) h1
  · have h2 : (n : Int) > 100 := by omega
    go_enter Try.func5, Try.ntmps5
    go_wp2_with (go_at_call 7; refine (awake_any w).mono ?_; rintro e w4 ⟨rfl, hb4⟩; have B4 := Lib.hid hb4; clear hb4)
    go_ret
    exact ⟨rfl, B4.out⟩

/-! ### THE ROW -/
theorem own : ownKnob Try.prog.godebug = none := by kernel_rfl

set_option maxRecDepth 100000 in
theorem lifted (os : Os) (started : os.Started) (H : Type) (enc : TypeId × Value → H) :
    ReturnsInHanded {} Try.checked os 5 .any (Rows.rhoAloneSpec.pre6 enc Try.prog Try.f5 Rows.rhoAloneRow.domain false) (Rows.rhoAloneSpec.post enc Try.prog Try.f5 false true false false) := by
  refine returnsInHanded_of_change (C := Try.checked) own started (by kernel_rfl) Try.func5
    (ChangeSpec.witness6 (enc := enc) (C := Try.checked) false ⟨#[], #[.slice none 0 0, .int .i64 0], []⟩ 8 (by kernel_rfl) (by kernel_rfl) (by kernel_rfl) (by kernel_rfl)) ?_
  intro W base args ds gs before hval0 hW hcnd _
  have hval : ∀ (j : Nat) t v, Try.f5.params[j]? = some t → args[j]? = some v → Value.okWide Try.prog W .any base t v := hval0
  have hW' := hW
  obtain ⟨p, q, hA0, hV, rfl, hfz, hnd⟩ := hW
  have hA : DataW.TrodAll enc Try.prog W 0 (fun _ => true) true Try.f5.params.toList args.toList ds p := hA0
  rw [Try.params5] at hA hval
  obtain ⟨v0, vs0, d0, ds0, p0, q0, hargs, rfl, rfl, h0, r0⟩ := trodAll_cons hA
  obtain ⟨v1, vs1, d1, ds1, p1, q1, rfl, rfl, rfl, h1, r1⟩ := trodAll_cons r0
  obtain ⟨rfl, rfl, rfl⟩ := trodAll_nil r1
  obtain rfl : args = #[v0, v1] := by cases args; simp_all
  obtain ⟨rfl, rfl⟩ := trodVars_none hV
  obtain ⟨A0, n0, c0, bs0, rfl, hn0, hnc0, hcm0, hsee0⟩ := open_bytes Try.underlying40 Try.underlying5 (by kernel_rfl) (hval 0 40 v0 rfl rfl) h0
  obtain ⟨a1, rfl, rfl, rfl, w1⟩ := open_int Try.underlying3 (hval 1 3 v1 rfl rfl) h1
  refine (walk A0 n0 c0 bs0 a1 W hn0 hnc0 hcm0 hsee0 w1).mono fun e W' ⟨he, hg⟩ => ?_
  subst he
  exact ⟨_, rfl, law_post hW' rfl (by kernel_rfl) (by kernel_rfl) (by kernel_rfl) Try.underlying4 rfl rfl rfl hg⟩

theorem over : Rows.rhoAloneRow.holds Try.pinned (OpenSpec.ofChange Rows.rhoAloneSpec) :=
  OpenClaim.holds_of_wide 5 Try.f5 rfl rfl rfl rfl rfl rfl rfl ⟨rfl, rfl, rfl, rfl, rfl⟩ rfl rfl rfl rfl rfl (by kernel_rfl) Try.func5 (by kernel_rfl)
    (of_decide_eq_true (by kernel_rfl)) (by unfold Func.isWrapper; first | (rw [if_pos (by decide +kernel)]; kernel_rfl) | (rw [if_neg (by decide +kernel)]; exact ⟨rfl, rfl⟩))
    (fun os started H enc _ => lifted os started H enc)

theorem proved : Rows.RhoAloneSaid :=
  over
#print axioms proved

end Go.Proofs.Ytkfhocmnkamhlaa.RhoAlone
