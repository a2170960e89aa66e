/-
  PolicyParts: what admits policies (up to 30) admits each part of them, a greater capacity admits them too, and the loads of two parts add up; it holds for every input, and the argument stays as it was. No condition.
-/
import Derived.Test.YtocigbknfhggfaaPolA
import Derived.Test.YtocigbknfhggfaaPolOpen
import Derived.Test.YtocigbknfhggfaaQuietB
import Derived.Test.YtocigbknfhggfaaPickN
import Derived.Test.YtocigbknfhggfaaRows
import Derived.Test.YtocigbknfhggfaaChecked
namespace Go.Proofs.Ytocigbknfhggfaa.PolicyParts
open Go.ChangeShapes Go.WideShapes Go.ChangeAt Go.RowKit
set_option linter.unusedVariables false

theorem admits_parts {picks : Int} {l : List Pol} (h : admitsP picks l = true) (k : Nat) : admitsP picks (l.take k) = true ∧ admitsP picks (l.drop k) = true := by
  unfold admitsP allP at h ⊢
  simp only [Bool.and_eq_true, decide_eq_true_eq, List.all_eq_true] at h ⊢
  have e := loadP_split l k
  have e1 := (loadP_bd (l.take k)).1
  have e2 := (loadP_bd (l.drop k)).1
  refine ⟨⟨⟨⟨h.1.1.1, ?_⟩, fun x hx => h.1.2 x (List.mem_of_mem_take hx)⟩, ?_⟩, ⟨⟨h.1.1.1, ?_⟩, fun x hx => h.1.2 x (List.mem_of_mem_drop hx)⟩, ?_⟩
  · have := h.1.1.2; rw [List.length_take]; omega
  · have := h.2; omega
  · have := h.1.1.2; rw [List.length_drop]; omega
  · have := h.2; omega
theorem admits_more {picks : Int} {l : List Pol} (h : admitsP picks l = true) (hp : picks < 64) : admitsP (picks + 1) l = true := by
  unfold admitsP at h ⊢
  simp only [Bool.and_eq_true, decide_eq_true_eq] at h ⊢
  have := h.2
  exact ⟨⟨⟨by omega, h.1.1.2⟩, h.1.2⟩, by omega⟩
theorem admits_bd {picks : Int} {l : List Pol} (h : admitsP picks l = true) : 1 ≤ picks ∧ picks ≤ 64 := by
  unfold admitsP at h
  simp only [Bool.and_eq_true, decide_eq_true_eq] at h
  exact h.1.1.1

attribute [local irreducible] wpQuiet
set_option maxRecDepth 100000 in
set_option maxHeartbeats 8000000 in
theorem walkYes (picks : Int) (A : Option Addr) (n c : Nat) (l : List Pol) (cut : Int) (w : World) (hp : In64 picks) (hn : l.length = n) (hnc : n ≤ c) (hcm : c ≤ maxLen) (hs : PolsAt w A l) (hle : n ≤ 30) (hc : In64 cut) (ha : admitsP picks l = true) :
    Calls Try.prog 5 #[.int .i64 picks, .slice A n c, .int .i64 cut] w fun e w' => e = .returned (.bool true) ∧ Below w.heap.size w w' := by
  unfold maxLen at hcm
  have hle' : ¬ (30 : Int) < (n : Int) := by omega
  obtain ⟨p1, p2⟩ := admits_bd ha
  have Hparts := Lib.hid (fun k => admits_parts ha k)
  have Hmore := Lib.hid (fun h => admits_more ha h)
  have C0 := Lib.hid (Admits_any picks A n c l w hn (by unfold maxLen; omega) hs hp)
  rw [ha] at C0
  obtain ⟨k, hk, hkn⟩ : ∃ k : Nat, cut % ((n : Int) + 1) = (k : Int) ∧ k ≤ n := by
    have e1 := Int.emod_nonneg cut (show (n : Int) + 1 ≠ 0 by omega)
    have e2 := Int.emod_lt_of_pos cut (show (0 : Int) < (n : Int) + 1 by omega)
    exact ⟨(cut % ((n : Int) + 1)).toNat, by omega, by omega⟩
  have CP := Lib.hid (fun w => Pick_any cut ((n : Int) + 1) w hc.1 hc.2 (by omega) (by omega))
  rw [hk] at CP
  have hlt : (l.take k).length = k := by rw [List.length_take, hn]; omega
  have hld : (l.drop k).length = n - k := by rw [List.length_drop, hn]
  obtain ⟨A2, hA2⟩ : ∃ A2, (if c = k then A else A.map (·.add (k * 4))) = A2 := ⟨_, rfl⟩
  have hdrop : ∀ w', Below w.heap.size w w' → PolsAt w' A2 (l.drop k) := fun w' hb => by
    have := (hs.below hb).drop (k := k) (cap := c) (by omega)
    rwa [hA2] at this
  have CT := Lib.hid (fun w' (hb : Below w.heap.size w w') => Admits_any picks A k c (l.take k) w' hlt (by unfold maxLen; omega) ((hs.below hb).take k) hp)
  have CD := Lib.hid (fun w' (hb : Below w.heap.size w w') => Admits_any picks A2 (n - k) (c - k) (l.drop k) w' hld (by unfold maxLen; omega) (hdrop w' hb) hp)
  have CM := Lib.hid (fun (h : picks < 64) w' (hb : Below w.heap.size w w') => Admits_any (picks + 1) A n c l w' hn (by unfold maxLen; omega) (hs.below hb) ⟨by omega, by omega⟩)
  have LT := Lib.hid (fun w' (hb : Below w.heap.size w w') => Load_any A k c (l.take k) w' hlt (by omega) ((hs.below hb).take k))
  have LD := Lib.hid (fun w' (hb : Below w.heap.size w w') => Load_any A2 (n - k) (c - k) (l.drop k) w' hld (by omega) (hdrop w' hb))
  have LL := Lib.hid (fun w' (hb : Below w.heap.size w w') => Load_any A n c l w' hn (by omega) (hs.below hb))
  rw [(Hparts.out k).1] at CT
  rw [(Hparts.out k).2] at CD
  have hz := loadP_split l k
  have hz1 := loadP_part_bd (l := l) (by omega) k
  have hz3 := loadP_bd l
  obtain ⟨z1, e1⟩ : ∃ z, loadP (l.take k) = z := ⟨_, rfl⟩
  obtain ⟨z2, e2⟩ : ∃ z, loadP (l.drop k) = z := ⟨_, rfl⟩
  have hz2 := (loadP_bd (l.drop k)).1
  rw [e1] at LT hz hz1
  rw [e2] at LD hz hz2
  rw [← hz] at LL hz3
  have hz4 : z1 + z2 ≤ 4503599627370496 := by have := hz3.2; rw [hn] at this; omega
  have hwr : IntKind.i64.wrap (z1 + z2) = z1 + z2 := IntWalk.i64_in _ (by omega)
  have hwp : IntKind.i64.wrap (picks + 1) = picks + 1 := IntWalk.i64_in _ (by omega)
  clear e1 e2 hz hz3 hdrop Hparts hlt hld
  clear hs hn hk ha hp hc
  go_enter Try.func5, Try.ntmps5
  go_wp2_with (first
    | (go_at_call 12; refine C0.out.mono ?_; rintro e w1 ⟨rfl, hb1⟩; have Hb1 := Lib.hid hb1; clear hb1)
    | (go_at_call 17; refine (CP.out _).mono ?_; rintro e w2 ⟨rfl, rfl⟩))
  have k0 : (0 : Int) ≤ (k : Int) := by omega
  have k1 : (k : Int) ≤ (n : Int) := by omega
  have k2 : (k : Int) ≤ (c : Int) := by omega
  have k3 : (n : Int) ≤ (c : Int) := by omega
  have QT := Lib.hid (fun p : BelowOf w1 => Calls.below_of (CT.out p.v (Hb1.out.trans (p.h.mono Hb1.out.size))))
  have QD := Lib.hid (fun p : BelowOf w1 => Calls.below_of (CD.out p.v (Hb1.out.trans (p.h.mono Hb1.out.size))))
  have RT := Lib.hid (fun p : BelowOf w1 => Calls.below_of (LT.out p.v (Hb1.out.trans (p.h.mono Hb1.out.size))))
  have RD := Lib.hid (fun p : BelowOf w1 => Calls.below_of (LD.out p.v (Hb1.out.trans (p.h.mono Hb1.out.size))))
  have RL := Lib.hid (fun p : BelowOf w1 => Calls.below_of (LL.out p.v (Hb1.out.trans (p.h.mono Hb1.out.size))))
  have AW := Lib.hid (fun p : BelowOf w1 => Calls.below_of (awake_any p.v))
  by_cases hck : c = k
  · rw [if_pos hck] at hA2
    subst hA2
    subst hck
    rw [show n - c = 0 by omega, Nat.sub_self] at QD RD
    by_cases h64 : 64 ≤ picks
    · refine wp_region_quiet_below (by kernel_rfl) (by kernel_rfl) ?_
      repeat (quiet_step (fail))
      quiet_step (exact (QT.out _))
      repeat (quiet_step (fail))
      quiet_step (exact (QD.out _))
      repeat (quiet_step (fail))
      quiet_step (exact (RT.out _))
      repeat (quiet_step (fail))
      quiet_step (exact (RD.out _))
      repeat (quiet_step (fail))
      quiet_step (exact (RL.out _))
      repeat (quiet_step (fail))
      quiet_step (exact (AW.out _))
      repeat (quiet_step (fail))
      refine wpQuiet_nil ?_
      rintro _ ⟨⟨w2, hb2⟩, rfl⟩
      have Hb2 := Lib.hid (Hb1.out.trans (hb2.mono Hb1.out.size))
      clear hb2
      go_wp2
      go_ret
      exact ⟨rfl, Hb2.out⟩
    · have QM := Lib.hid (fun p : BelowOf w1 => Calls.below_of (CM.out (by omega) p.v (Hb1.out.trans (p.h.mono Hb1.out.size))))
      rw [Hmore.out (by omega)] at QM
      refine wp_region_quiet_below (by kernel_rfl) (by kernel_rfl) ?_
      repeat (quiet_step (fail))
      quiet_step (exact (QT.out _))
      repeat (quiet_step (fail))
      quiet_step (exact (QD.out _))
      repeat (quiet_step (fail))
      quiet_step (exact (QM.out _))
      repeat (quiet_step (fail))
      quiet_step (exact (RT.out _))
      repeat (quiet_step (fail))
      quiet_step (exact (RD.out _))
      repeat (quiet_step (fail))
      quiet_step (exact (RL.out _))
      repeat (quiet_step (fail))
      quiet_step (exact (AW.out _))
      repeat (quiet_step (fail))
      refine wpQuiet_nil ?_
      rintro _ ⟨⟨w2, hb2⟩, rfl⟩
      have Hb2 := Lib.hid (Hb1.out.trans (hb2.mono Hb1.out.size))
      clear hb2
      go_wp2
      go_ret
      exact ⟨rfl, Hb2.out⟩
  · rw [if_neg hck] at hA2
    subst hA2
    by_cases h64 : 64 ≤ picks
    · refine wp_region_quiet_below (by kernel_rfl) (by kernel_rfl) ?_
      repeat (quiet_step (fail))
      quiet_step (exact (QT.out _))
      repeat (quiet_step (fail))
      quiet_step (exact (QD.out _))
      repeat (quiet_step (fail))
      quiet_step (exact (RT.out _))
      repeat (quiet_step (fail))
      quiet_step (exact (RD.out _))
      repeat (quiet_step (fail))
      quiet_step (exact (RL.out _))
      repeat (quiet_step (fail))
      quiet_step (exact (AW.out _))
      repeat (quiet_step (fail))
      refine wpQuiet_nil ?_
      rintro _ ⟨⟨w2, hb2⟩, rfl⟩
      have Hb2 := Lib.hid (Hb1.out.trans (hb2.mono Hb1.out.size))
      clear hb2
      go_wp2
      go_ret
      exact ⟨rfl, Hb2.out⟩
    · have QM := Lib.hid (fun p : BelowOf w1 => Calls.below_of (CM.out (by omega) p.v (Hb1.out.trans (p.h.mono Hb1.out.size))))
      rw [Hmore.out (by omega)] at QM
      refine wp_region_quiet_below (by kernel_rfl) (by kernel_rfl) ?_
      repeat (quiet_step (fail))
      quiet_step (exact (QT.out _))
      repeat (quiet_step (fail))
      quiet_step (exact (QD.out _))
      repeat (quiet_step (fail))
      quiet_step (exact (QM.out _))
      repeat (quiet_step (fail))
      quiet_step (exact (RT.out _))
      repeat (quiet_step (fail))
      quiet_step (exact (RD.out _))
      repeat (quiet_step (fail))
      quiet_step (exact (RL.out _))
      repeat (quiet_step (fail))
      quiet_step (exact (AW.out _))
      repeat (quiet_step (fail))
      refine wpQuiet_nil ?_
      rintro _ ⟨⟨w2, hb2⟩, rfl⟩
      have Hb2 := Lib.hid (Hb1.out.trans (hb2.mono Hb1.out.size))
      clear hb2
      go_wp2
      go_ret
      exact ⟨rfl, Hb2.out⟩

theorem walk (picks : Int) (A : Option Addr) (n c : Nat) (l : List Pol) (cut : Int) (w : World) (hp : (Lit.int .i64 picks).wf = true) (hn : l.length = n) (hnc : n ≤ c) (hcm : c ≤ maxLen) (hs : PolsAt w A l) (hc : (Lit.int .i64 cut).wf = true) :
    Calls Try.prog 5 #[.int .i64 picks, .slice A n c, .int .i64 cut] w fun e w' => e = .returned (.bool true) ∧ Below w.heap.size w w' := by
  by_cases h1 : n ≤ 30
  · cases ha : admitsP picks l with
    | true => exact walkYes picks A n c l cut w (in_of hp) hn hnc hcm hs h1 (in_of hc) ha
    | false =>
      have h2 : ¬ (30 : Int) < (n : Int) := by omega
      have C0 := Lib.hid (Admits_any picks A n c l w hn (by unfold maxLen; omega) hs (in_of hp))
      rw [ha] at C0
      clear ha
      go_enter Try.func5, Try.ntmps5
      go_wp2_with (first
        | (go_at_call 12; refine C0.out.mono ?_; rintro e w1 ⟨rfl, hb1⟩; have Hb1 := Lib.hid hb1; clear hb1)
        | (go_at_call 7; refine (awake_any _).mono ?_; rintro e w4 ⟨rfl, hb4⟩; have B4 := Lib.hid (Hb1.out.trans (hb4.mono Hb1.out.size)); clear hb4))
      go_ret
      exact ⟨rfl, B4.out⟩
  · have h2 : (30 : Int) < (n : Int) := by omega
    go_enter Try.func5, Try.ntmps5
    go_wp2_with (go_at_call 7; refine (awake_any w).mono ?_; rintro e w4 ⟨rfl, hb4⟩; have B4 := Lib.hid hb4; clear hb4)
    go_ret
    exact ⟨rfl, B4.out⟩

/-! ### THE ROW -/
theorem own : ownKnob Try.prog.godebug = none := by kernel_rfl

set_option maxRecDepth 100000 in
theorem lifted (os : Os) (started : os.Started) (H : Type) (enc : TypeId × Value → H) :
    ReturnsInHanded {} Try.checked os 5 .any (Rows.policyPartsSpec.pre6 enc Try.prog Try.f5 Rows.policyPartsRow.domain false) (Rows.policyPartsSpec.post enc Try.prog Try.f5 false true false false) := by
  refine returnsInHanded_of_change (C := Try.checked) own started (by kernel_rfl) Try.func5
    (ChangeSpec.witness6 (enc := enc) (C := Try.checked) false ⟨#[], #[.int .i64 0, .slice none 0 0, .int .i64 0], []⟩ 8 (by kernel_rfl) (by kernel_rfl) (by kernel_rfl) (by kernel_rfl)) ?_
  intro W base args ds gs before hval0 hW hcnd _
  have hval : ∀ (j : Nat) t v, Try.f5.params[j]? = some t → args[j]? = some v → Value.okWide Try.prog W .any base t v := hval0
  have hW' := hW
  obtain ⟨p, q, hA0, hV, rfl, hfz, hnd⟩ := hW
  have hA : DataW.TrodAll enc Try.prog W 0 (fun _ => true) true Try.f5.params.toList args.toList ds p := hA0
  rw [Try.params5] at hA hval
  obtain ⟨v0, vs0, d0, ds0, p0, q0, hargs, rfl, rfl, h0, r0⟩ := trodAll_cons hA
  obtain ⟨v1, vs1, d1, ds1, p1, q1, rfl, rfl, rfl, h1, r1⟩ := trodAll_cons r0
  obtain ⟨v2, vs2, d2, ds2, p2, q2, rfl, rfl, rfl, h2, r2⟩ := trodAll_cons r1
  obtain ⟨rfl, rfl, rfl⟩ := trodAll_nil r2
  obtain rfl : args = #[v0, v1, v2] := by cases args; simp_all
  obtain ⟨rfl, rfl⟩ := trodVars_none hV
  obtain ⟨a0, rfl, rfl, rfl, w0⟩ := open_int Try.underlying3 (hval 0 3 v0 rfl rfl) h0
  obtain ⟨A1, n1, c1, fs1, rfl, hn1, hnc1, hcm1, hf1⟩ := open_pols Try.underlying22 Try.underlying26 rfl rfl rfl rfl rfl rfl rfl rfl Try.underlying3 Try.underlying3 Try.underlying3 Try.underlying3 (by kernel_rfl) (by kernel_rfl) (by kernel_rfl) (by kernel_rfl) (by kernel_rfl) (hval 1 22 v1 rfl rfl) h1
  obtain ⟨a2, rfl, rfl, rfl, w2⟩ := open_int Try.underlying3 (hval 2 3 v2 rfl rfl) h2
  refine (walk a0 A1 n1 c1 fs1 a2 W w0 hn1 hnc1 hcm1 hf1 w2).mono fun e W' ⟨he, hg⟩ => ?_
  subst he
  exact ⟨_, rfl, law_post hW' rfl (by kernel_rfl) (by kernel_rfl) (by kernel_rfl) Try.underlying4 rfl rfl rfl hg⟩

theorem over : Rows.policyPartsRow.holds Try.pinned (OpenSpec.ofChange Rows.policyPartsSpec) :=
  OpenClaim.holds_of_wide 5 Try.f5 rfl rfl rfl rfl rfl rfl rfl ⟨rfl, rfl, rfl, rfl, rfl⟩ rfl rfl rfl rfl rfl (by kernel_rfl) Try.func5 (by kernel_rfl)
    (of_decide_eq_true (by kernel_rfl)) (by unfold Func.isWrapper; first | (rw [if_pos (by decide +kernel)]; kernel_rfl) | (rw [if_neg (by decide +kernel)]; exact ⟨rfl, rfl⟩))
    (fun os started H enc _ => lifted os started H enc)

theorem proved : Rows.PolicyPartsSaid :=
  over
#print axioms proved

end Go.Proofs.Ytocigbknfhggfaa.PolicyParts
