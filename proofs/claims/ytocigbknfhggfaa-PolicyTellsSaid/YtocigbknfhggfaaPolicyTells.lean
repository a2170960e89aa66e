/-
  PolicyTells: whether any policies are right, their load, and whether a capacity admits them (of up to 60 policies), is what the document says; it holds for every input, and the argument stays as it was. No condition.
-/
import Derived.Test.YtocigbknfhggfaaPolA
import Derived.Test.YtocigbknfhggfaaPolOpen
import Derived.Test.YtocigbknfhggfaaQuietB
import Derived.Test.YtocigbknfhggfaaRows
import Derived.Test.YtocigbknfhggfaaChecked
namespace Go.Proofs.Ytocigbknfhggfaa.PolicyTells
open Go.ChangeShapes Go.WideShapes Go.ChangeAt Go.RowKit
set_option linter.unusedVariables false

attribute [local go_sem ↓] ldPol_eq
set_option maxRecDepth 100000 in
set_option maxHeartbeats 2000000 in
theorem walkIn (picks : Int) (A : Option Addr) (n c : Nat) (l : List Pol) (w : World) (hp : In64 picks) (hn : l.length = n) (hs : PolsAt w A l) (hle : n ≤ 60) :
    Calls Try.prog 3 #[.int .i64 picks, .slice A n c] w fun e w' => e = .returned (.bool true) ∧ Below w.heap.size w w' := by
  have Hs := Lib.hid hs; have Hn := Lib.hid hn; have Hpk := Lib.hid hp
  clear hs hn hp
  have hle' : ¬ (60 : Int) < (n : Int) := by omega
  have CL := Lib.hid (fun w' (hb : Below w.heap.size w w') => Load_any A n c l w' Hn.out (by omega) (Hs.out.below hb))
  have CR := Lib.hid (fun w' (hb : Below w.heap.size w w') => RLoad_any A n c l w' Hn.out (by omega) (Hs.out.below hb))
  have CA := Lib.hid (fun w' (hb : Below w.heap.size w w') => Admits_any picks A n c l w' Hn.out (by unfold maxLen; omega) (Hs.out.below hb) Hpk.out)
  have CB := Lib.hid (fun w' (hb : Below w.heap.size w w') => RAdmits_any picks A n c l w' Hn.out (by unfold maxLen; omega) (Hs.out.below hb) Hpk.out)
  obtain ⟨z, hz⟩ : ∃ z, loadP l = z := ⟨_, rfl⟩
  obtain ⟨b, hb⟩ : ∃ b, admitsP picks l = b := ⟨_, rfl⟩
  rw [hz] at CL CR
  rw [hb] at CA CB
  clear hz hb
  go_enter Try.func3, Try.ntmps3
  go_wp2
  go_loopw [5] (fun i wr => ∃ k : Nat, k ≤ n ∧ i = .int .i64 k ∧ Below w.heap.size w wr) (fun i _ => n - (intOf i).toNat)
  case atStart => exact ⟨0, by omega, rfl, Below.refl _ _⟩
  case round =>
    obtain ⟨k, hk, rfl, hb⟩ := hrel
    have Hb := Lib.hid hb
    clear hb
    by_cases hlt : k < n
    · obtain ⟨g, o, p, rfl, hp, hat⟩ := Hs.out.get (k := k) (by rw [Hn.out]; exact hlt)
      have hld : ∀ q : BelowOf wr, _ := fun q => ldPol_run ((hat.below Hb.out).below q.h)
      have C1 := Lib.hid (Right_any p); have C2 := Lib.hid (RRight_any p)
      obtain ⟨r, hr⟩ : ∃ r, rightP p = r := ⟨_, rfl⟩
      rw [hr] at C1 C2
      clear hat hr hp
      have b0 : (0 : Int) ≤ (k : Int) := by omega
      have b1 : (k : Int) < (n : Int) := by omega
      obtain ⟨re, we, li, bu⟩ := p
      simp only at hld C1 C2
      go_wp2
      refine wp_region_quiet_below (by kernel_rfl) (by kernel_rfl) ?_
      repeat (quiet_step (first
        | (go_at_call 8; exact Calls.below_of (C1.out _))
        | (go_at_call 9; exact Calls.below_of (C2.out _))))
      refine wpQuiet_nil ?_
      rintro _ ⟨⟨w2, hb2⟩, rfl⟩
      have Hb2 := Lib.hid (Hb.out.trans (hb2.mono Hb.out.size))
      clear hb2 hld
      go_wp2
      go_roundw
      case rel => exact ⟨k + 1, by omega, by go_num, Hb2.out⟩
      case measure => simp [intOf]; omega
    · have hkn : k = n := by omega
      subst hkn
      go_wp2_with (first
        | (go_at_call 10; refine (CL.out _ Hb.out).mono ?_; rintro e w2 ⟨rfl, hb2⟩; have Hb2 := Lib.hid (Hb.out.trans (hb2.mono Hb.out.size)); clear hb2)
        | (go_at_call 11; refine (CR.out _ Hb2.out).mono ?_; rintro e w3 ⟨rfl, hb3⟩; have Hb3 := Lib.hid (Hb2.out.trans (hb3.mono Hb2.out.size)); clear hb3)
        | (go_at_call 12; refine (CA.out _ Hb3.out).mono ?_; rintro e w4 ⟨rfl, hb4⟩; have Hb4 := Lib.hid (Hb3.out.trans (hb4.mono Hb3.out.size)); clear hb4)
        | (go_at_call 13; refine (CB.out _ Hb4.out).mono ?_; rintro e w5 ⟨rfl, hb5⟩; have Hb5 := Lib.hid (Hb4.out.trans (hb5.mono Hb4.out.size)); clear hb5)
        | (go_at_call 7; refine (awake_any _).mono ?_; rintro e w6 ⟨rfl, hb6⟩; have Hb6 := Lib.hid (Hb5.out.trans (hb6.mono Hb5.out.size)); clear hb6))
      go_ret
      exact ⟨rfl, Hb6.out⟩

theorem walk (picks : Int) (A : Option Addr) (n c : Nat) (l : List Pol) (w : World) (hp : (Lit.int .i64 picks).wf = true) (hn : l.length = n) (hnc : n ≤ c) (hcm : c ≤ maxLen) (hs : PolsAt w A l) :
    Calls Try.prog 3 #[.int .i64 picks, .slice A n c] w fun e w' => e = .returned (.bool true) ∧ Below w.heap.size w w' := by
  by_cases h1 : n ≤ 60
  · exact walkIn picks A n c l w (in_of hp) hn hs h1
  · have h2 : (60 : Int) < (n : Int) := by omega
    go_enter Try.func3, Try.ntmps3
    go_wp2_with (go_at_call 7; refine (awake_any w).mono ?_; rintro e w4 ⟨rfl, hb4⟩; have B4 := Lib.hid hb4; clear hb4)
    go_ret
    exact ⟨rfl, B4.out⟩

/-! ### THE ROW -/
theorem own : ownKnob Try.prog.godebug = none := by kernel_rfl

set_option maxRecDepth 100000 in
theorem lifted (os : Os) (started : os.Started) (H : Type) (enc : TypeId × Value → H) :
    ReturnsInHanded {} Try.checked os 3 .any (Rows.policyTellsSpec.pre6 enc Try.prog Try.f3 Rows.policyTellsRow.domain false) (Rows.policyTellsSpec.post enc Try.prog Try.f3 false true false false) := by
  refine returnsInHanded_of_change (C := Try.checked) own started (by kernel_rfl) Try.func3
    (ChangeSpec.witness6 (enc := enc) (C := Try.checked) false ⟨#[], #[.int .i64 0, .slice none 0 0], []⟩ 8 (by kernel_rfl) (by kernel_rfl) (by kernel_rfl) (by kernel_rfl)) ?_
  intro W base args ds gs before hval0 hW hcnd _
  have hval : ∀ (j : Nat) t v, Try.f3.params[j]? = some t → args[j]? = some v → Value.okWide Try.prog W .any base t v := hval0
  have hW' := hW
  obtain ⟨p, q, hA0, hV, rfl, hfz, hnd⟩ := hW
  have hA : DataW.TrodAll enc Try.prog W 0 (fun _ => true) true Try.f3.params.toList args.toList ds p := hA0
  rw [Try.params3] at hA hval
  obtain ⟨v0, vs0, d0, ds0, p0, q0, hargs, rfl, rfl, h0, r0⟩ := trodAll_cons hA
  obtain ⟨v1, vs1, d1, ds1, p1, q1, rfl, rfl, rfl, h1, r1⟩ := trodAll_cons r0
  obtain ⟨rfl, rfl, rfl⟩ := trodAll_nil r1
  obtain rfl : args = #[v0, v1] := by cases args; simp_all
  obtain ⟨rfl, rfl⟩ := trodVars_none hV
  obtain ⟨a0, rfl, rfl, rfl, w0⟩ := open_int Try.underlying3 (hval 0 3 v0 rfl rfl) h0
  obtain ⟨A1, n1, c1, fs1, rfl, hn1, hnc1, hcm1, hf1⟩ := open_pols Try.underlying22 Try.underlying26 rfl rfl rfl rfl rfl rfl rfl rfl Try.underlying3 Try.underlying3 Try.underlying3 Try.underlying3 (by kernel_rfl) (by kernel_rfl) (by kernel_rfl) (by kernel_rfl) (by kernel_rfl) (hval 1 22 v1 rfl rfl) h1
  refine (walk a0 A1 n1 c1 fs1 W w0 hn1 hnc1 hcm1 hf1).mono fun e W' ⟨he, hg⟩ => ?_
  subst he
  exact ⟨_, rfl, law_post hW' rfl (by kernel_rfl) (by kernel_rfl) (by kernel_rfl) Try.underlying4 rfl rfl rfl hg⟩

theorem over : Rows.policyTellsRow.holds Try.pinned (OpenSpec.ofChange Rows.policyTellsSpec) :=
  OpenClaim.holds_of_wide 3 Try.f3 rfl rfl rfl rfl rfl rfl rfl ⟨rfl, rfl, rfl, rfl, rfl⟩ rfl rfl rfl rfl rfl (by kernel_rfl) Try.func3 (by kernel_rfl)
    (of_decide_eq_true (by kernel_rfl)) (by unfold Func.isWrapper; first | (rw [if_pos (by decide +kernel)]; kernel_rfl) | (rw [if_neg (by decide +kernel)]; exact ⟨rfl, rfl⟩))
    (fun os started H enc _ => lifted os started H enc)

theorem proved : Rows.PolicyTellsSaid :=
  over
#print axioms proved

end Go.Proofs.Ytocigbknfhggfaa.PolicyTells
