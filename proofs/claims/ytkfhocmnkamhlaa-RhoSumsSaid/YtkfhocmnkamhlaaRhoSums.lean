/-
  RhoSums: what a server was told, and did itself, is all that was done, when it is asked (of up to 100 events); it holds for every input, and the arguments stay as they were. No condition.
-/
import Derived.Test.YtkfhocmnkamhlaaRhoA
import Derived.Test.YtkfhocmnkamhlaaEvs
import Derived.Test.YtkfhocmnkamhlaaLaw
import Derived.Test.YtkfhocmnkamhlaaRows
import Derived.Test.YtkfhocmnkamhlaaChecked
namespace Go.Proofs.Ytkfhocmnkamhlaa.RhoSums
open Go.ChangeShapes Go.WideShapes Go.ChangeAt Go.RowKit Go.Maps
set_option linter.unusedVariables false

theorem u64_nn (n : Int) : 0 ≤ IntKind.u64.wrap n := by
  have h1 := Int.emod_nonneg n (show (18446744073709551616 : Int) ≠ 0 by omega)
  have e : IntKind.u64.wrap n = n % 18446744073709551616 := by simp [IntKind.wrap, IntKind.bits, IntKind.signed]
  rw [e]; exact h1
theorem place_of (n : Int) : ∃ a : Int, wrap64 ((IntKind.u64.wrap n).tmod 4) = a ∧ 0 ≤ a ∧ a < 4 := by
  refine ⟨_, rfl, ?_⟩
  rw [Int.tmod_eq_emod_of_nonneg (u64_nn n)]
  have h1 := Int.emod_nonneg (IntKind.u64.wrap n) (show (4 : Int) ≠ 0 by omega)
  have h2 := Int.emod_lt_of_pos (IntKind.u64.wrap n) (show (0 : Int) < 4 by omega)
  unfold wrap64
  omega
theorem phase_of (n : Int) : ∃ a : Int, wrap64 (1 + wrap64 ((IntKind.u64.wrap n).tmod 2)) = a ∧ (a = 1 ∨ a = 2) := by
  refine ⟨_, rfl, ?_⟩
  rw [Int.tmod_eq_emod_of_nonneg (u64_nn n)]
  have h1 := Int.emod_nonneg (IntKind.u64.wrap n) (show (2 : Int) ≠ 0 by omega)
  have h2 := Int.emod_lt_of_pos (IntKind.u64.wrap n) (show (0 : Int) < 2 by omega)
  unfold wrap64
  omega
theorem server_of {z : Int} (h0 : 0 ≤ z) (h1 : z < 256) : ∃ s : Int, (wrap64 z).tmod 4 = s ∧ 0 ≤ s ∧ s < 4 := by
  have e : wrap64 z = z := by unfold wrap64; omega
  refine ⟨_, rfl, ?_⟩
  rw [e, Int.tmod_eq_emod_of_nonneg h0]
  omega
theorem one_of {k : Int} (h : k = 1 ∨ k = 2) : (oneC k).1 = 1 := by rcases h with rfl | rfl <;> rfl
set_option maxRecDepth 100000 in
set_option maxHeartbeats 4000000 in
theorem walkIn (A : Option Addr) (n c : Nat) (l : List Ev) (z : Int) (s : Int) (w : World) (hn : l.length = n) (hs : EvsAt w A l) (hz : (wrap64 z).tmod 4 = s) (hq : 0 ≤ s ∧ s < 4) (h100 : n ≤ 100) :
    Calls Try.prog 4 #[.slice A n c, .int .u8 z] w fun e w' => e = .returned (.bool true) ∧ Below w.heap.size w w' := by
  have Hn := Lib.hid hn; have Hs := Lib.hid hs; have Hq := Lib.hid hq
  clear hn hs hq
  have h1 : ¬ (n : Int) > 100 := by omega
  obtain ⟨W1, hW1⟩ : ∃ W1, w.alloc (.cells #[.int .i64 0, .int .i64 0, .map none] 28) = W1 := ⟨_, rfl⟩
  have H1 := Lib.hid (show TrkAt W1 w.heap.size w.heap.size 0 none (0, 0) (fun _ => (0, 0)) by rw [← hW1]; exact new_trk w)
  have B1 := Lib.hid (show Below w.heap.size w W1 by rw [← hW1]; exact (Below.refl _ _).alloc (Nat.le_refl _) _)
  go_enter Try.func4, Try.ntmps4
  go_wp2
  clear hW1
  go_loopw [7, 8] (fun nv iv wr => ∃ (i : Nat) (m : Option Nat) (t : Cn) (f : Int → Cn), nv = .int .i64 (f s).1 ∧ iv = .int .i64 (i : Int) ∧ i ≤ n ∧ TrkAt wr w.heap.size w.heap.size (2 * i) m t f ∧ Below w.heap.size w wr) (fun _ iv _ => n - (intOf iv).toNat)
  case atStart => exact ⟨0, none, (0, 0), fun _ => (0, 0), rfl, rfl, by omega, H1.out, B1.out⟩
  case round =>
    obtain ⟨i, m, t, f, rfl, rfl, hin, hh, hb⟩ := hrel
    have Hh := Lib.hid hh; have Hb := Lib.hid hb
    clear hh hb
    by_cases hi : i < n
    · obtain ⟨g, o, ⟨sv, p⟩, rfl, hk, c0, c1, hb0, hb1⟩ := (Hs.out.below Hb.out).get (k := i) (by have := Hn.out; omega)
      have i0 : (0 : Int) ≤ (i : Int) := by omega
      have i1 : (i : Int) < (n : Int) := by omega
      clear hk
      simp only at c0 c1
      clear hb0 hb1
      have hg := Hh.out.good
      have hgs := hg.bd s
      have hga := hg.all s
      have b1 : 0 ≤ (f s).1 := by omega
      have b2 : (f s).1 ≤ t.1 := by omega
      have b3 : t.1 ≤ 200 := by omega
      have Hga := Lib.hid (And.intro hgs hga)
      clear hg hgs hga
      by_cases p0 : p = 0
      · subst p0
        obtain ⟨d, hd⟩ : ∃ d, t.1 - (f s).1 = d := ⟨_, rfl⟩
        obtain ⟨r, hr⟩ : ∃ r, t.2 - (f s).2 = r := ⟨_, rfl⟩
        have d1 : 0 ≤ d := by omega
        have d2 : d ≤ 200 := by omega
        have d3 : ¬ r > d := by have := Hga.out; omega
        have d4 : (f s).1 + d = t.1 := by omega
        have Hd := Lib.hid (And.intro hd hr)
        clear hd hr
        have K1 := Lib.hid (show Calls _ _ _ _ _ from Begin_any w.heap.size w.heap.size (2 * i) m t f s wr Hh.out Hb.out.size (by have := Hq.out; omega) (by omega))
        unfold BeginRet at K1
        rw [Hd.out.1, Hd.out.2] at K1
        go_wp2_with (first
          | (go_at_call 8; refine K1.out.mono ?_; rintro e w2 ⟨rfl, m2, h2, t2, -⟩; have H2 := Lib.hid h2; have B2 := Lib.hid (Hb.out.trans (Hh.out.over Hb.out.size t2)); clear h2 t2)
          | (go_at_call 11; refine (Total_any w.heap.size w.heap.size (2 * i + 1) m2 t (updC f s t) w2 H2.out).mono ?_; rintro e w3 ⟨rfl, b3⟩; have H3 := Lib.hid (H2.out.below b3); have B3 := Lib.hid (B2.out.trans (b3.mono B2.out.size)); clear b3))
        go_roundw
        case rel => exact ⟨i + 1, m2, t, updC f s t, by rw [updC_same], by go_num, by omega, H3.out.mono (by omega), B3.out⟩
        case measure => simp [intOf]; omega
      · have q0 : (p == 0) = false := by simpa using p0
        obtain ⟨a, ha, ha2⟩ := place_of sv
        obtain ⟨k, hk, hk2⟩ := phase_of p
        have hone := one_of hk2
        have Ha2 := Lib.hid ha2
        clear p0 ha2 hk2
        have hg2 := Hh.out.good.done a k
        have ht2 : (addC t (oneC k)).1 = t.1 + 1 := by unfold addC; rw [hone]
        have hga2 := hg2.all s
        have hgb2 := hg2.bd s
        obtain ⟨t', htt⟩ : ∃ t', addC t (oneC k) = t' := ⟨_, rfl⟩
        obtain ⟨f', hff⟩ : ∃ f', updC f a (addC (f a) (oneC k)) = f' := ⟨_, rfl⟩
        rw [htt] at ht2
        rw [htt, hff] at hga2 hgb2
        have K1 := Lib.hid (show Calls _ _ _ _ _ from Done_any w.heap.size w.heap.size (2 * i) m t f a k wr Hh.out Hb.out.size (by have := Ha2.out; omega) (by omega))
        unfold DoneRet at K1
        rw [htt, hff] at K1
        have c1 : t'.1 ≤ 201 := by omega
        have c2 : ¬ t'.2 > t'.1 := by omega
        by_cases has : a = s
        · have hf2 : (f' s).1 = (f s).1 + 1 := by
            rw [← hff, has, updC_same]
            show (f s).1 + (oneC k).1 = _
            rw [hone]
          have c3 : ¬ (f s).1 + 1 > t'.1 := by omega
          rw [has] at ha K1
          have Hf2 := Lib.hid hf2
          have Hht := Lib.hid (And.intro htt hff)
          clear hg2 hone ht2 hga2 hgb2 htt hff hf2 has
          go_wp2_with (first
            | (go_at_call 10; refine K1.out.mono ?_; rintro e w2 ⟨rfl, m2, h2, t2, -⟩; have H2 := Lib.hid h2; have B2 := Lib.hid (Hb.out.trans (Hh.out.over Hb.out.size t2)); clear h2 t2)
            | (go_at_call 11; refine (Total_any w.heap.size w.heap.size (2 * i + 2) m2 t' f' w2 H2.out).mono ?_; rintro e w3 ⟨rfl, b3⟩; have H3 := Lib.hid (H2.out.below b3); have B3 := Lib.hid (B2.out.trans (b3.mono B2.out.size)); clear b3))
          go_roundw
          case rel => exact ⟨i + 1, m2, t', f', by rw [Hf2.out], by go_num, by omega, H3.out.mono (by omega), B3.out⟩
          case measure => simp [intOf]; omega
        · have hf2 : (f' s).1 = (f s).1 := by
            rw [← hff, updC_other (fun e => has e.symm)]
          have c3 : ¬ (f s).1 > t'.1 := by omega
          have q1 : (a == s) = false := by simpa using has
          have Hf2 := Lib.hid hf2
          have Hht := Lib.hid (And.intro htt hff)
          clear hg2 hone ht2 hga2 hgb2 htt hff hf2 has
          go_wp2_with (first
            | (go_at_call 10; refine K1.out.mono ?_; rintro e w2 ⟨rfl, m2, h2, t2, -⟩; have H2 := Lib.hid h2; have B2 := Lib.hid (Hb.out.trans (Hh.out.over Hb.out.size t2)); clear h2 t2)
            | (go_at_call 11; refine (Total_any w.heap.size w.heap.size (2 * i + 2) m2 t' f' w2 H2.out).mono ?_; rintro e w3 ⟨rfl, b3⟩; have H3 := Lib.hid (H2.out.below b3); have B3 := Lib.hid (B2.out.trans (b3.mono B2.out.size)); clear b3))
          go_roundw
          case rel => exact ⟨i + 1, m2, t', f', by rw [Hf2.out], by go_num, by omega, H3.out.mono (by omega), B3.out⟩
          case measure => simp [intOf]; omega
    · obtain rfl : i = n := by omega
      have i1 : ¬ (i : Int) < (i : Int) := by omega
      go_wp2_with (go_at_call 7; refine (awake_any wr).mono ?_; rintro e w4 ⟨rfl, hb4⟩; have B4 := Lib.hid (Hb.out.trans (hb4.mono Hb.out.size)); clear hb4)
      go_ret
      exact ⟨rfl, B4.out⟩

theorem walk (A : Option Addr) (n c : Nat) (l : List Ev) (z : Int) (w : World) (hn : l.length = n) (hnc : n ≤ c) (hcm : c ≤ maxLen) (hs : EvsAt w A l) (hz : (Lit.int .u8 z).wf = true) :
    Calls Try.prog 4 #[.slice A n c, .int .u8 z] w fun e w' => e = .returned (.bool true) ∧ Below w.heap.size w w' := by
  by_cases h1 : n ≤ 100
  · have hb := bounds_u8 hz
    obtain ⟨s, h2, h3⟩ := server_of (z := z) (by omega) (by omega)
    exact walkIn A n c l z s w hn hs h2 h3 h1
  · have h2 : (n : Int) > 100 := by omega
    go_enter Try.func4, Try.ntmps4
    go_wp2_with (go_at_call 7; refine (awake_any w).mono ?_; rintro e w4 ⟨rfl, hb4⟩; have B4 := Lib.hid hb4; clear hb4)
    go_ret
    exact ⟨rfl, B4.out⟩

/-! ### THE ROW -/
theorem own : ownKnob Try.prog.godebug = none := by kernel_rfl

set_option maxRecDepth 100000 in
theorem lifted (os : Os) (started : os.Started) (H : Type) (enc : TypeId × Value → H) :
    ReturnsInHanded {} Try.checked os 4 .any (Rows.rhoSumsSpec.pre6 enc Try.prog Try.f4 Rows.rhoSumsRow.domain false) (Rows.rhoSumsSpec.post enc Try.prog Try.f4 false true false false) := by
  refine returnsInHanded_of_change (C := Try.checked) own started (by kernel_rfl) Try.func4
    (ChangeSpec.witness6 (enc := enc) (C := Try.checked) false ⟨#[], #[.slice none 0 0, .int .u8 0], []⟩ 8 (by kernel_rfl) (by kernel_rfl) (by kernel_rfl) (by kernel_rfl)) ?_
  intro W base args ds gs before hval0 hW hcnd _
  have hval : ∀ (j : Nat) t v, Try.f4.params[j]? = some t → args[j]? = some v → Value.okWide Try.prog W .any base t v := hval0
  have hW' := hW
  obtain ⟨p, q, hA0, hV, rfl, hfz, hnd⟩ := hW
  have hA : DataW.TrodAll enc Try.prog W 0 (fun _ => true) true Try.f4.params.toList args.toList ds p := hA0
  rw [Try.params4] at hA hval
  obtain ⟨v0, vs0, d0, ds0, p0, q0, hargs, rfl, rfl, h0, r0⟩ := trodAll_cons hA
  obtain ⟨v1, vs1, d1, ds1, p1, q1, rfl, rfl, rfl, h1, r1⟩ := trodAll_cons r0
  obtain ⟨rfl, rfl, rfl⟩ := trodAll_nil r1
  obtain rfl : args = #[v0, v1] := by cases args; simp_all
  obtain ⟨rfl, rfl⟩ := trodVars_none hV
  obtain ⟨A0, n0, c0, fs0, rfl, hn0, hnc0, hcm0, hf0⟩ := open_evs Try.underlying22 Try.underlying30 rfl rfl rfl rfl Try.underlying3 Try.underlying3 (by kernel_rfl) (by kernel_rfl) (by kernel_rfl) (hval 0 22 v0 rfl rfl) h0
  obtain ⟨a1, rfl, rfl, rfl, w1⟩ := open_int Try.underlying5 (hval 1 5 v1 rfl rfl) h1
  refine (walk A0 n0 c0 fs0 a1 W hn0 hnc0 hcm0 hf0 w1).mono fun e W' ⟨he, hg⟩ => ?_
  subst he
  exact ⟨_, rfl, law_post hW' rfl (by kernel_rfl) (by kernel_rfl) (by kernel_rfl) Try.underlying4 rfl rfl rfl hg⟩

theorem over : Rows.rhoSumsRow.holds Try.pinned (OpenSpec.ofChange Rows.rhoSumsSpec) :=
  OpenClaim.holds_of_wide 4 Try.f4 rfl rfl rfl rfl rfl rfl rfl ⟨rfl, rfl, rfl, rfl, rfl⟩ rfl rfl rfl rfl rfl (by kernel_rfl) Try.func4 (by kernel_rfl)
    (of_decide_eq_true (by kernel_rfl)) (by unfold Func.isWrapper; first | (rw [if_pos (by decide +kernel)]; kernel_rfl) | (rw [if_neg (by decide +kernel)]; exact ⟨rfl, rfl⟩))
    (fun os started H enc _ => lifted os started H enc)

theorem proved : Rows.RhoSumsSaid :=
  over
#print axioms proved

end Go.Proofs.Ytkfhocmnkamhlaa.RhoSums
