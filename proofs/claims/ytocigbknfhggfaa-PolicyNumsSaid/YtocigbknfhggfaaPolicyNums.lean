/-
  PolicyNums: a right policy comes back out of its numbers, others don't, nor do fewer or more numbers (of up to 8); it holds for every input, and the arguments stay as they were. No condition.
-/
import Derived.Test.YtocigbknfhggfaaPolN
import Derived.Test.YtocigbknfhggfaaPolOpen
import Derived.Test.YtocigbknfhggfaaSameI
import Derived.Test.YtocigbknfhggfaaRows
import Derived.Test.YtocigbknfhggfaaChecked
namespace Go.Proofs.Ytocigbknfhggfaa.PolicyNums
open Go.ChangeShapes Go.WideShapes Go.ChangeAt Go.RowKit
set_option linter.unusedVariables false

/-- a new variable that holds a policy, read in a later world -/
theorem var_run {w3 w' : World} (p : Pol) (hp : InP p) (hb : Below (w3.alloc (.cells #[.int .i64 p.re, .int .i64 p.we, .int .i64 p.li, .int .i64 p.bu] 26)).heap.size (w3.alloc (.cells #[.int .i64 p.re, .int .i64 p.we, .int .i64 p.li, .int .i64 p.bu] 26)) w') :
    (ldPol (.pointer (some ⟨w3.heap.size, 0, none⟩))).run Try.prog w' = .ok (.agg #[.int .i64 p.re, .int .i64 p.we, .int .i64 p.li, .int .i64 p.bu]) w' :=
  ldPol_run ((pol_of_row (heap_alloc_new _ _) hp).below hb)
theorem zero_in : InP ⟨0, 0, 0, 0⟩ := by unfold InP In64; simp
theorem from_in {ns : List Int} {p : Pol} (h : fromP ns = some p) (hi : ∀ x ∈ ns, In64 x) : InP p := by
  have e := (from_some h).2
  rw [← e] at hi
  exact ⟨hi _ (by simp [numsOf]), hi _ (by simp [numsOf]), hi _ (by simp [numsOf]), hi _ (by simp [numsOf])⟩

attribute [local go_sem ↓] ldPol_eq
set_option maxRecDepth 100000 in
set_option maxHeartbeats 4000000 in
theorem walkIn (p : Pol) (A : Option Addr) (n c : Nat) (ns : List Int) (w : World) (hp : InP p) (hn : ns.length = n) (hs : Seen w A (numsV ns)) (hi : ∀ x ∈ ns, In64 x) (hle : n ≤ 8) :
    Calls Try.prog 4 #[.agg #[.int .i64 p.re, .int .i64 p.we, .int .i64 p.li, .int .i64 p.bu], .slice A n c] w fun e w' => e = .returned (.bool true) ∧ Below w.heap.size w w' := by
  have Hs := Lib.hid hs; have Hn := Lib.hid hn; have Hi := Lib.hid hi; have Hp := Lib.hid hp
  clear hs hn hi
  have hle' : ¬ (8 : Int) < (n : Int) := by omega
  have CN := Lib.hid (fun w => Nums_any p w hp)
  have CR := Lib.hid (fun w => RRight_any p w)
  obtain ⟨w1, hw1⟩ : ∃ w1, w.alloc (.cells #[.int .i64 p.re, .int .i64 p.we, .int .i64 p.li, .int .i64 p.bu] 26) = w1 := ⟨_, rfl⟩
  have hb1 : Below w.heap.size w w1 := by rw [← hw1]; exact below_box _ _
  have hat : PolAt w1 w.heap.size 0 p := by rw [← hw1]; exact pol_of_row (heap_alloc_new _ _) hp
  have Hld := Lib.hid (fun (w' : World) (hb : Below w1.heap.size w1 w') => ldPol_run (hat.below hb))
  have hld1 := Hld.out w1 (Below.refl _ _)
  have Hb1 := Lib.hid hb1
  have hf := from_nums p
  have CF := Lib.hid (fun A w h => From_any A 4 4 (numsOf p) w rfl (by unfold maxLen; omega) h (nums_in hp))
  rw [hf] at CF
  clear hb1 hat hf hp
  obtain ⟨r, hr⟩ : ∃ r, rightP p = r := ⟨_, rfl⟩
  rw [hr] at CR CF
  have Hr := Lib.hid hr
  clear hr
  obtain ⟨re, we, li, bu⟩ := p
  simp only at hw1 Hld hld1 CN CR CF ⊢
  cases hf : fromP ns with
  | none =>
    have Hf := Lib.hid hf
    clear hf
    cases r with
    | true =>
      simp only [if_true] at CF
      go_enter Try.func4, Try.ntmps4
      go_wp2_with fail
      refine (CN.out _).mono ?_
      rintro e w2 ⟨A2, rfl, hs2, hb2⟩
      have Hb2 := Lib.hid hb2
      have Hs2 := Lib.hid hs2
      clear hb2 hs2
      go_wp2_with fail
      refine (CF.out _ _ Hs2.out).mono ?_
      rintro e w3 ⟨rfl, hb3⟩
      have Hb3 := Lib.hid (Hb2.out.trans (hb3.mono Hb2.out.size))
      clear hb3
      have Hb4 := Lib.hid (Hb3.out.alloc Hb3.out.size (.cells #[.int .i64 re, .int .i64 we, .int .i64 li, .int .i64 bu] 26))
      have hld4 := Hld.out _ Hb4.out
      have hq4 := var_run (w3 := w3) ⟨re, we, li, bu⟩ Hp.out (Below.refl _ _)
      simp only at hq4
      go_wp2_with fail
      refine (CR.out _).mono ?_
      rintro e w5 ⟨rfl, hb5⟩
      have Hb5 := Lib.hid (Hb4.out.trans (hb5.mono Hb4.out.size))
      have hld5 := Hld.out _ Hb5.out
      have hq5 := var_run (w3 := w3) ⟨re, we, li, bu⟩ Hp.out hb5
      simp only at hq5
      clear hb5 hld4 hq4 hld1 hw1
      go_wp2_with fail
      refine (From_no A n c ns _ Hn.out (by unfold maxLen; omega) (Hs.out.below (Hb1.out.trans (Hb5.out.mono Hb1.out.size))) Hi.out Hf.out).mono ?_
      rintro e w6 ⟨rfl, hb6⟩
      have Hb6 := Lib.hid (Hb5.out.trans (hb6.mono Hb5.out.size))
      have Hb7 := Lib.hid (Hb6.out.alloc Hb6.out.size (.cells #[.int .i64 0, .int .i64 0, .int .i64 0, .int .i64 0] 26))
      have hx7 := var_run (w3 := w6) ⟨0, 0, 0, 0⟩ zero_in (Below.refl _ _)
      clear hb6 hld5 hq5
      simp only at hx7
      have Hb10 := Hb7
      go_wp2_with fail
      refine (awake_any _).mono ?_
      rintro e w11 ⟨rfl, hb11⟩
      have Hb11 := Lib.hid (Hb10.out.trans (hb11.mono Hb10.out.size))
      clear hb11
      go_wp2
      go_ret
      exact ⟨rfl, Hb1.out.trans (Hb11.out.mono Hb1.out.size)⟩
    | false =>
      simp only [Bool.false_eq_true, if_false] at CF
      go_enter Try.func4, Try.ntmps4
      go_wp2_with fail
      refine (CN.out _).mono ?_
      rintro e w2 ⟨A2, rfl, hs2, hb2⟩
      have Hb2 := Lib.hid hb2
      have Hs2 := Lib.hid hs2
      clear hb2 hs2
      go_wp2_with fail
      refine (CF.out _ _ Hs2.out).mono ?_
      rintro e w3 ⟨rfl, hb3⟩
      have Hb3 := Lib.hid (Hb2.out.trans (hb3.mono Hb2.out.size))
      clear hb3
      have Hb4 := Lib.hid (Hb3.out.alloc Hb3.out.size (.cells #[.int .i64 0, .int .i64 0, .int .i64 0, .int .i64 0] 26))
      have hld4 := Hld.out _ Hb4.out
      have hq4 := var_run (w3 := w3) ⟨0, 0, 0, 0⟩ zero_in (Below.refl _ _)
      simp only at hq4
      go_wp2_with fail
      refine (CR.out _).mono ?_
      rintro e w5 ⟨rfl, hb5⟩
      have Hb5 := Lib.hid (Hb4.out.trans (hb5.mono Hb4.out.size))
      have hld5 := Hld.out _ Hb5.out
      have hq5 := var_run (w3 := w3) ⟨0, 0, 0, 0⟩ zero_in hb5
      simp only at hq5
      clear hb5 hld4 hq4 hld1 hw1
      go_wp2_with fail
      refine (From_no A n c ns _ Hn.out (by unfold maxLen; omega) (Hs.out.below (Hb1.out.trans (Hb5.out.mono Hb1.out.size))) Hi.out Hf.out).mono ?_
      rintro e w6 ⟨rfl, hb6⟩
      have Hb6 := Lib.hid (Hb5.out.trans (hb6.mono Hb5.out.size))
      have Hb7 := Lib.hid (Hb6.out.alloc Hb6.out.size (.cells #[.int .i64 0, .int .i64 0, .int .i64 0, .int .i64 0] 26))
      have hx7 := var_run (w3 := w6) ⟨0, 0, 0, 0⟩ zero_in (Below.refl _ _)
      clear hb6 hld5 hq5
      simp only at hx7
      have Hb10 := Hb7
      go_wp2_with fail
      refine (awake_any _).mono ?_
      rintro e w11 ⟨rfl, hb11⟩
      have Hb11 := Lib.hid (Hb10.out.trans (hb11.mono Hb10.out.size))
      clear hb11
      go_wp2
      go_ret
      exact ⟨rfl, Hb1.out.trans (Hb11.out.mono Hb1.out.size)⟩
  | some x =>
    have Hxi := Lib.hid (from_in hf Hi.out)
    have Hnf := Lib.hid (from_some hf).2
    have XR := Lib.hid (fun w => RRight_any x w)
    have XN := Lib.hid (fun w => Nums_any x w Hxi.out)
    rw [(from_some hf).1] at XR
    have Hf := Lib.hid hf
    clear hf
    obtain ⟨xr, xw, xl, xb⟩ := x
    simp only at XR XN
    cases r with
    | true =>
      simp only [if_true] at CF
      go_enter Try.func4, Try.ntmps4
      go_wp2_with fail
      refine (CN.out _).mono ?_
      rintro e w2 ⟨A2, rfl, hs2, hb2⟩
      have Hb2 := Lib.hid hb2
      have Hs2 := Lib.hid hs2
      clear hb2 hs2
      go_wp2_with fail
      refine (CF.out _ _ Hs2.out).mono ?_
      rintro e w3 ⟨rfl, hb3⟩
      have Hb3 := Lib.hid (Hb2.out.trans (hb3.mono Hb2.out.size))
      clear hb3
      have Hb4 := Lib.hid (Hb3.out.alloc Hb3.out.size (.cells #[.int .i64 re, .int .i64 we, .int .i64 li, .int .i64 bu] 26))
      have hld4 := Hld.out _ Hb4.out
      have hq4 := var_run (w3 := w3) ⟨re, we, li, bu⟩ Hp.out (Below.refl _ _)
      simp only at hq4
      go_wp2_with fail
      refine (CR.out _).mono ?_
      rintro e w5 ⟨rfl, hb5⟩
      have Hb5 := Lib.hid (Hb4.out.trans (hb5.mono Hb4.out.size))
      have hld5 := Hld.out _ Hb5.out
      have hq5 := var_run (w3 := w3) ⟨re, we, li, bu⟩ Hp.out hb5
      simp only at hq5
      clear hb5 hld4 hq4 hld1 hw1
      go_wp2_with fail
      refine (From_yes A n c ns ⟨xr, xw, xl, xb⟩ _ Hn.out (by unfold maxLen; omega) (Hs.out.below (Hb1.out.trans (Hb5.out.mono Hb1.out.size))) Hi.out Hf.out).mono ?_
      rintro e w6 ⟨rfl, hb6⟩
      have Hb6 := Lib.hid (Hb5.out.trans (hb6.mono Hb5.out.size))
      have Hb7 := Lib.hid (Hb6.out.alloc Hb6.out.size (.cells #[.int .i64 xr, .int .i64 xw, .int .i64 xl, .int .i64 xb] 26))
      have hx7 := var_run (w3 := w6) ⟨xr, xw, xl, xb⟩ Hxi.out (Below.refl _ _)
      clear hb6 hld5 hq5
      simp only at hx7
      go_wp2_with fail
      refine (XR.out _).mono ?_
      rintro e w8 ⟨rfl, hb8⟩
      have Hb8 := Lib.hid (Hb7.out.trans (hb8.mono Hb7.out.size))
      have hx8 := var_run (w3 := w6) ⟨xr, xw, xl, xb⟩ Hxi.out hb8
      simp only at hx8
      clear hb8
      go_wp2_with fail
      refine (XN.out _).mono ?_
      rintro e w9 ⟨A9, rfl, hs9, hb9⟩
      have Hb9 := Lib.hid (Hb8.out.trans (hb9.mono Hb8.out.size))
      have Hs9 := Lib.hid hs9
      clear hb9 hs9
      go_wp2_with fail
      refine (SameInts_any A9 A 4 n 4 c (numsOf ⟨xr, xw, xl, xb⟩) ns _ rfl Hn.out Hs9.out (Hs.out.below (Hb1.out.trans (Hb9.out.mono Hb1.out.size))) (by unfold maxLen; omega)).mono ?_
      rw [decide_eq_true Hnf.out]
      rintro e w10 ⟨rfl, hb10⟩
      have Hb10 := Lib.hid (Hb9.out.trans (hb10.mono Hb9.out.size))
      clear hb10
      go_wp2_with fail
      refine (awake_any _).mono ?_
      rintro e w11 ⟨rfl, hb11⟩
      have Hb11 := Lib.hid (Hb10.out.trans (hb11.mono Hb10.out.size))
      clear hb11
      go_wp2
      go_ret
      exact ⟨rfl, Hb1.out.trans (Hb11.out.mono Hb1.out.size)⟩
    | false =>
      simp only [Bool.false_eq_true, if_false] at CF
      go_enter Try.func4, Try.ntmps4
      go_wp2_with fail
      refine (CN.out _).mono ?_
      rintro e w2 ⟨A2, rfl, hs2, hb2⟩
      have Hb2 := Lib.hid hb2
      have Hs2 := Lib.hid hs2
      clear hb2 hs2
      go_wp2_with fail
      refine (CF.out _ _ Hs2.out).mono ?_
      rintro e w3 ⟨rfl, hb3⟩
      have Hb3 := Lib.hid (Hb2.out.trans (hb3.mono Hb2.out.size))
      clear hb3
      have Hb4 := Lib.hid (Hb3.out.alloc Hb3.out.size (.cells #[.int .i64 0, .int .i64 0, .int .i64 0, .int .i64 0] 26))
      have hld4 := Hld.out _ Hb4.out
      have hq4 := var_run (w3 := w3) ⟨0, 0, 0, 0⟩ zero_in (Below.refl _ _)
      simp only at hq4
      go_wp2_with fail
      refine (CR.out _).mono ?_
      rintro e w5 ⟨rfl, hb5⟩
      have Hb5 := Lib.hid (Hb4.out.trans (hb5.mono Hb4.out.size))
      have hld5 := Hld.out _ Hb5.out
      have hq5 := var_run (w3 := w3) ⟨0, 0, 0, 0⟩ zero_in hb5
      simp only at hq5
      clear hb5 hld4 hq4 hld1 hw1
      go_wp2_with fail
      refine (From_yes A n c ns ⟨xr, xw, xl, xb⟩ _ Hn.out (by unfold maxLen; omega) (Hs.out.below (Hb1.out.trans (Hb5.out.mono Hb1.out.size))) Hi.out Hf.out).mono ?_
      rintro e w6 ⟨rfl, hb6⟩
      have Hb6 := Lib.hid (Hb5.out.trans (hb6.mono Hb5.out.size))
      have Hb7 := Lib.hid (Hb6.out.alloc Hb6.out.size (.cells #[.int .i64 xr, .int .i64 xw, .int .i64 xl, .int .i64 xb] 26))
      have hx7 := var_run (w3 := w6) ⟨xr, xw, xl, xb⟩ Hxi.out (Below.refl _ _)
      clear hb6 hld5 hq5
      simp only at hx7
      go_wp2_with fail
      refine (XR.out _).mono ?_
      rintro e w8 ⟨rfl, hb8⟩
      have Hb8 := Lib.hid (Hb7.out.trans (hb8.mono Hb7.out.size))
      have hx8 := var_run (w3 := w6) ⟨xr, xw, xl, xb⟩ Hxi.out hb8
      simp only at hx8
      clear hb8
      go_wp2_with fail
      refine (XN.out _).mono ?_
      rintro e w9 ⟨A9, rfl, hs9, hb9⟩
      have Hb9 := Lib.hid (Hb8.out.trans (hb9.mono Hb8.out.size))
      have Hs9 := Lib.hid hs9
      clear hb9 hs9
      go_wp2_with fail
      refine (SameInts_any A9 A 4 n 4 c (numsOf ⟨xr, xw, xl, xb⟩) ns _ rfl Hn.out Hs9.out (Hs.out.below (Hb1.out.trans (Hb9.out.mono Hb1.out.size))) (by unfold maxLen; omega)).mono ?_
      rw [decide_eq_true Hnf.out]
      rintro e w10 ⟨rfl, hb10⟩
      have Hb10 := Lib.hid (Hb9.out.trans (hb10.mono Hb9.out.size))
      clear hb10
      go_wp2_with fail
      refine (awake_any _).mono ?_
      rintro e w11 ⟨rfl, hb11⟩
      have Hb11 := Lib.hid (Hb10.out.trans (hb11.mono Hb10.out.size))
      clear hb11
      go_wp2
      go_ret
      exact ⟨rfl, Hb1.out.trans (Hb11.out.mono Hb1.out.size)⟩

theorem walk (p : Pol) (A : Option Addr) (n c : Nat) (ns : List Int) (w : World) (hp : InP p) (hn : ns.length = n) (hnc : n ≤ c) (hcm : c ≤ maxLen) (hs : Seen w A (numsV ns)) (hi : ∀ x ∈ ns, In64 x) :
    Calls Try.prog 4 #[.agg #[.int .i64 p.re, .int .i64 p.we, .int .i64 p.li, .int .i64 p.bu], .slice A n c] w fun e w' => e = .returned (.bool true) ∧ Below w.heap.size w w' := by
  by_cases h1 : n ≤ 8
  · exact walkIn p A n c ns w hp hn hs hi h1
  · have h2 : (8 : Int) < (n : Int) := by omega
    have Hb := Lib.hid (below_box w (.cells #[.int .i64 p.re, .int .i64 p.we, .int .i64 p.li, .int .i64 p.bu] 26))
    go_enter Try.func4, Try.ntmps4
    go_wp2_with (go_at_call 7; refine (awake_any _).mono ?_; rintro e w4 ⟨rfl, hb4⟩; have B4 := Lib.hid (Hb.out.trans (hb4.mono Hb.out.size)); clear hb4)
    go_ret
    exact ⟨rfl, B4.out⟩

/-! ### THE ROW -/
theorem own : ownKnob Try.prog.godebug = none := by kernel_rfl

set_option maxRecDepth 100000 in
theorem lifted (os : Os) (started : os.Started) (H : Type) (enc : TypeId × Value → H) :
    ReturnsInHanded {} Try.checked os 4 .any (Rows.policyNumsSpec.pre6 enc Try.prog Try.f4 Rows.policyNumsRow.domain false) (Rows.policyNumsSpec.post enc Try.prog Try.f4 false true false false) := by
  refine returnsInHanded_of_change (C := Try.checked) own started (by kernel_rfl) Try.func4
    (ChangeSpec.witness6 (enc := enc) (C := Try.checked) false ⟨#[], #[.agg #[.int .i64 0, .int .i64 0, .int .i64 0, .int .i64 0], .slice none 0 0], []⟩ 8 (by kernel_rfl) (by kernel_rfl) (by kernel_rfl) (by kernel_rfl)) ?_
  intro W base args ds gs before hval0 hW hcnd _
  have hval : ∀ (j : Nat) t v, Try.f4.params[j]? = some t → args[j]? = some v → Value.okWide Try.prog W .any base t v := hval0
  have hW' := hW
  obtain ⟨p, q, hA0, hV, rfl, hfz, hnd⟩ := hW
  have hA : DataW.TrodAll enc Try.prog W 0 (fun _ => true) true Try.f4.params.toList args.toList ds p := hA0
  rw [Try.params4] at hA hval
  obtain ⟨v0, vs0, d0, ds0, p0, q0, hargs, rfl, rfl, h0, r0⟩ := trodAll_cons hA
  obtain ⟨v1, vs1, d1, ds1, p1, q1, rfl, rfl, rfl, h1, r1⟩ := trodAll_cons r0
  obtain ⟨rfl, rfl, rfl⟩ := trodAll_nil r1
  obtain rfl : args = #[v0, v1] := by cases args; simp_all
  obtain ⟨rfl, rfl⟩ := trodVars_none hV
  obtain ⟨p0_, rfl, hq0⟩ := open_pol Try.underlying26 rfl rfl rfl rfl rfl rfl rfl rfl Try.underlying3 Try.underlying3 Try.underlying3 Try.underlying3 (by kernel_rfl) (by kernel_rfl) (by kernel_rfl) (by kernel_rfl) (by kernel_rfl) (hval 0 26 v0 rfl rfl) h0
  obtain ⟨A1, n1, c1, us1, rfl, hn1, hnc1, hcm1, hs1, hu1⟩ := open_nums Try.underlying29 Try.underlying3 (by kernel_rfl) (hval 1 29 v1 rfl rfl) h1
  refine (walk p0_ A1 n1 c1 us1 W hq0 hn1 hnc1 hcm1 hs1 hu1).mono fun e W' ⟨he, hg⟩ => ?_
  subst he
  exact ⟨_, rfl, law_post hW' rfl (by kernel_rfl) (by kernel_rfl) (by kernel_rfl) Try.underlying4 rfl rfl rfl hg⟩

theorem over : Rows.policyNumsRow.holds Try.pinned (OpenSpec.ofChange Rows.policyNumsSpec) :=
  OpenClaim.holds_of_wide 4 Try.f4 rfl rfl rfl rfl rfl rfl rfl ⟨rfl, rfl, rfl, rfl, rfl⟩ rfl rfl rfl rfl rfl (by kernel_rfl) Try.func4 (by kernel_rfl)
    (of_decide_eq_true (by kernel_rfl)) (by unfold Func.isWrapper; first | (rw [if_pos (by decide +kernel)]; kernel_rfl) | (rw [if_neg (by decide +kernel)]; exact ⟨rfl, rfl⟩))
    (fun os started H enc _ => lifted os started H enc)

theorem proved : Rows.PolicyNumsSaid :=
  over
#print axioms proved

end Go.Proofs.Ytocigbknfhggfaa.PolicyNums
