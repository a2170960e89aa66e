/-
  BlockValues: a content that is copied is another one: whatever acts are done with the copy (up to 60, behind up to 60), the first one's bytes stay; it holds for every input, and the arguments stay as they were. No condition.
-/
import Derived.Test.YteebkolccbcehaaBlkAwk
import Derived.Test.YteebkolccbcehaaBlkDo
import Derived.Test.YteebkolccbcehaaLaw
import Derived.Test.YteebkolccbcehaaChecked
namespace Go.Proofs.Yteebkolccbcehaa.BlockValues
open Go.ChangeShapes Go.WideShapes Go.ChangeAt Go.RowKit Go.Proofs.Yteebkolccbcehaa
set_option linter.unusedVariables false
set_option linter.unusedSimpArgs false

theorem hbd_size (w : World) (m : List UInt8) : (w.alloc (.cells (bytesV m).toArray 27)).heap.size = w.heap.size + 1 := by simp
attribute [local go_sem ↓] ldB_eq stB_eq ldBs_eq ldC_eq stC_eq ldS_eq
set_option maxRecDepth 100000 in
set_option maxHeartbeats 4000000 in
theorem walk_main (A0 : Option Addr) (n0 c0 : Nat) (l0 : List Act8) (A1 : Option Addr) (n1 c1 : Nat) (l1 : List Act8) (w : World) (hn0 : l0.length = n0) (hf0 : Acts8At w A0 l0) (hn1 : l1.length = n1) (hf1 : Acts8At w A1 l1) (h0 : n0 ≤ 60) (h1 : n1 ≤ 60) :
    Calls Try.prog 5 #[.slice A0 n0 c0, .slice A1 n1 c1] w fun e w' => e = .returned (.bool true) ∧ Below w.heap.size w w' := by
  have g0 : ¬ (n0 : Int) > 60 := by omega
  have g1 : ¬ (n1 : Int) > 60 := by omega
  have hz := zc_run
  have hc := CtAt.new (m := z128) rfl w
  have hb := (Below.refl _ w).alloc (Nat.le_refl _) (.cells (bytesV z128).toArray 27)
  have K1 := Lib.hid (do_any w.heap.size z128 A0 n0 c0 l0 w (w.alloc (.cells (bytesV z128).toArray 27)) hc hn0 h0 hf0 hb (Nat.le_refl _))
  have Hb := Lib.hid hb
  obtain ⟨m0, hm0⟩ : ∃ m, doF z128 l0 = m := ⟨_, rfl⟩
  rw [hm0] at K1
  have K2 := Lib.hid (fun (m : List UInt8) (g : Nat) (W V : World) (hb : Below w.heap.size w W) (hc : CtAt V g m) (hg : W.heap.size ≤ g) (hv : Below W.heap.size W V) => do_any g m A1 n1 c1 l1 W V hc hn1 h1 (hf1.below hb) hv hg)
  clear hc hb hm0 hn0 hf0 hn1 hf1 h0 h1
  go_enter Try.func5, Try.ntmps5
  go_wp2_with fail
  refine K1.out.mono ?_
  rintro e w1 ⟨rfl, hc1, ht1⟩
  have hb1 := Hb.out.trans (ht1.below (fun k e => by omega) Hb.out.size)
  have hlc := ldC_run hc1
  have hst := stC_new hc1.len w1
  have hbd := (Below.refl _ w1).alloc (Nat.le_refl _) (.cells (bytesV m0).toArray 27)
  have hc2 := hc1.below hbd
  have Hd2 := Lib.hid (CtAt.new hc1.len w1)
  have Hb1 := Lib.hid hb1
  have Hc2 := Lib.hid hc2
  have Hlt := Lib.hid hc1.lt
  have Hbd := Lib.hid hbd
  have hml := hc1.len
  clear K1 hc1 ht1 hb1 hc2 hbd
  go_wp2_with fail
  refine (BBytes_any w.heap.size m0 _ Hc2.out).mono ?_
  rintro e w3 ⟨A2, c2, rfl, hown, hb3⟩
  have hsl : (bytesV (sealOf m0)).length = 132 := by rw [bytes_length, sealOf_length, hml]
  have Hd3 := Lib.hid (Hd2.out.below hb3); have Hc3 := Lib.hid (Hc2.out.below hb3)
  have Hb3 := Lib.hid ((Hbd.out.trans (hb3.mono Hbd.out.size)))
  rw [hsl]
  have Hown := Lib.hid hown
  rw [hsl] at Hown
  have Hbs := Lib.hid (hbd_size w1 m0)
  clear hown hb3 hlc hst hz
  go_wp2_with fail
  refine (K2.out m0 w1.heap.size w1 w3 Hb1.out Hd3.out (Nat.le_refl _) Hb3.out).mono ?_
  rintro e w4 ⟨rfl, hd4, ht4⟩
  have Hc4 := Lib.hid (Hc3.out.turned ht4 (by have := Hlt.out; omega))
  have Hs4 := Lib.hid (Seen.of_own (ht4.own Hown.out (fun k hk e => by have := own_lo Hown.out k hk; have := Hbs.out; omega)))
  have Hb4 := Lib.hid (Hb1.out.trans ((Hb3.out.trans (ht4.below (fun k e => by omega) Hb3.out.size)).mono Hb1.out.size))
  clear hd4 ht4 Hown Hc3 Hd3 K2
  go_wp2_with fail
  refine (BBytes_any w.heap.size m0 _ Hc4.out).mono ?_
  rintro e w5 ⟨A5, c5, rfl, hown5, hb5⟩
  rw [hsl]
  have Hs5 := Lib.hid (Seen.of_own hown5); have Hs5' := Lib.hid (Hs4.out.below hb5); have Hb5 := Lib.hid (Hb4.out.trans (hb5.mono Hb4.out.size))
  have Hss := Lib.hid (show (sealOf m0).length = 132 by rw [sealOf_length, hml])
  clear hown5 hb5
  go_wp2_with fail
  refine (Same_any A5 A2 132 132 c5 c2 (sealOf m0) (sealOf m0) w5 Hss.out Hss.out Hs5.out Hs5'.out (by omega)).mono ?_
  rintro e w6 ⟨rfl, hb6⟩
  rw [decide_eq_true rfl]
  have Hb6 := Lib.hid (Hb5.out.trans (hb6.mono Hb5.out.size))
  clear hb6
  go_wp2_with (go_at_call 7; refine (awake_any _).mono ?_; rintro e w7 ⟨rfl, hb7⟩; have Hb7 := Lib.hid (Hb6.out.trans (hb7.mono Hb6.out.size)); clear hb7)
  go_ret
  exact ⟨rfl, Hb7.out⟩
theorem walk (A0 : Option Addr) (n0 c0 : Nat) (l0 : List Act8) (A1 : Option Addr) (n1 c1 : Nat) (l1 : List Act8) (w : World) (hn0 : l0.length = n0) (hnc0 : n0 ≤ c0) (hcm0 : c0 ≤ maxLen) (hf0 : Acts8At w A0 l0) (hn1 : l1.length = n1) (hnc1 : n1 ≤ c1) (hcm1 : c1 ≤ maxLen) (hf1 : Acts8At w A1 l1) :
    Calls Try.prog 5 #[.slice A0 n0 c0, .slice A1 n1 c1] w fun e w' => e = .returned (.bool true) ∧ Below w.heap.size w w' := by
  by_cases h0 : n0 ≤ 60
  · by_cases h1 : n1 ≤ 60
    · exact walk_main A0 n0 c0 l0 A1 n1 c1 l1 w hn0 hf0 hn1 hf1 h0 h1
    · have g0 : ¬ (n0 : Int) > 60 := by omega
      have g1 : (n1 : Int) > 60 := by omega
      clear hn0 hf0 hn1 hf1 h0 h1 hnc0 hcm0 hnc1 hcm1
      go_enter Try.func5, Try.ntmps5
      go_wp2_with (go_at_call 7; refine (awake_any _).mono ?_; rintro e w7 ⟨rfl, hb7⟩; have Hb7 := Lib.hid hb7; clear hb7)
      go_ret
      exact ⟨rfl, Hb7.out⟩
  · have g0 : (n0 : Int) > 60 := by omega
    clear hn0 hf0 hn1 hf1 h0 hnc0 hcm0 hnc1 hcm1
    go_enter Try.func5, Try.ntmps5
    go_wp2_with (go_at_call 7; refine (awake_any _).mono ?_; rintro e w7 ⟨rfl, hb7⟩; have Hb7 := Lib.hid hb7; clear hb7)
    go_ret
    exact ⟨rfl, Hb7.out⟩
/-! ### THE ROW -/
theorem own : ownKnob Try.prog.godebug = none := by kernel_rfl

set_option maxRecDepth 100000 in
theorem lifted (os : Os) (started : os.Started) (H : Type) (enc : TypeId × Value → H) :
    ReturnsInHanded {} Try.checked os 5 .any (Rows.blockValuesSpec.pre6 enc Try.prog Try.f5 Rows.blockValuesRow.domain false) (Rows.blockValuesSpec.post enc Try.prog Try.f5 false true false false) := by
  refine returnsInHanded_of_change (C := Try.checked) own started (by kernel_rfl) Try.func5
    (ChangeSpec.witness6 (enc := enc) (C := Try.checked) false ⟨#[], #[.slice none 0 0, .slice none 0 0], []⟩ 8 (by kernel_rfl) (by kernel_rfl) (by kernel_rfl) (by kernel_rfl)) ?_
  intro W base args ds gs before hval0 hW hcnd _
  have hval : ∀ (j : Nat) t v, Try.f5.params[j]? = some t → args[j]? = some v → Value.okWide Try.prog W .any base t v := hval0
  have hW' := hW
  obtain ⟨p, q, hA0, hV, rfl, hfz, hnd⟩ := hW
  have hA : DataW.TrodAll enc Try.prog W 0 (fun _ => true) true Try.f5.params.toList args.toList ds p := hA0
  rw [Try.params5] at hA hval
  obtain ⟨v0, vs0, d0, ds0, p0, q0, hargs, rfl, rfl, h0, r0⟩ := trodAll_cons hA
  obtain ⟨v1, vs1, d1, ds1, p1, q1, rfl, rfl, rfl, h1, r1⟩ := trodAll_cons r0
  obtain ⟨rfl, rfl, rfl⟩ := trodAll_nil r1
  obtain rfl : args = #[v0, v1] := by cases args; simp_all
  obtain ⟨rfl, rfl⟩ := trodVars_none hV
  obtain ⟨A0, n0, c0, fs0, rfl, hn0, hnc0, hcm0, hf0⟩ := open_acts8 Try.underlying22 Try.underlying31 rfl rfl rfl rfl rfl rfl Try.underlying3 Try.underlying3 Try.underlying28 Try.underlying5 (by kernel_rfl) (by kernel_rfl) (by kernel_rfl) (by kernel_rfl) (by kernel_rfl) (hval 0 22 v0 rfl rfl) h0
  obtain ⟨A1, n1, c1, fs1, rfl, hn1, hnc1, hcm1, hf1⟩ := open_acts8 Try.underlying22 Try.underlying31 rfl rfl rfl rfl rfl rfl Try.underlying3 Try.underlying3 Try.underlying28 Try.underlying5 (by kernel_rfl) (by kernel_rfl) (by kernel_rfl) (by kernel_rfl) (by kernel_rfl) (hval 1 22 v1 rfl rfl) h1
  refine (walk A0 n0 c0 fs0 A1 n1 c1 fs1 W hn0 hnc0 hcm0 hf0 hn1 hnc1 hcm1 hf1).mono fun e W' ⟨he, hg⟩ => ?_
  subst he
  exact ⟨_, rfl, law_post hW' rfl (by kernel_rfl) (by kernel_rfl) (by kernel_rfl) Try.underlying4 rfl rfl rfl hg⟩

theorem over : Rows.blockValuesRow.holds Try.pinned (OpenSpec.ofChange Rows.blockValuesSpec) :=
  OpenClaim.holds_of_wide 5 Try.f5 rfl rfl rfl rfl rfl rfl rfl ⟨rfl, rfl, rfl, rfl, rfl⟩ rfl rfl rfl rfl rfl (by kernel_rfl) Try.func5 (by kernel_rfl)
    (of_decide_eq_true (by kernel_rfl)) (by unfold Func.isWrapper; first | (rw [if_pos (by decide +kernel)]; kernel_rfl) | (rw [if_neg (by decide +kernel)]; exact ⟨rfl, rfl⟩))
    (fun os started H enc _ => lifted os started H enc)

theorem proved : Rows.BlockValuesSaid :=
  over
#print axioms proved

end Go.Proofs.Yteebkolccbcehaa.BlockValues
