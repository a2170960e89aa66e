/-
  BlockLoads: of any bytes (up to 200) there is a content, or none, as the document says, and so of the same bytes behind their own sum; a content that was loaded has just these bytes; it holds for every input, and the argument stays as it was. No condition.
-/
import Derived.Test.YteebkolccbcehaaBlkAwk
import Derived.Test.YteebkolccbcehaaLaw
import Derived.Test.YteebkolccbcehaaChecked
namespace Go.Proofs.Yteebkolccbcehaa.BlockLoads
open Go.ChangeShapes Go.WideShapes Go.ChangeAt Go.RowKit Go.Proofs.Yteebkolccbcehaa
set_option linter.unusedVariables false
set_option linter.unusedSimpArgs false

theorem okB_back {bs : List UInt8} (h : okB bs = true) : bs.length = 132 ∧ sealOf (bs.take 128) = bs ∧ (bs.take 128).length = 128 := by
  have h1 : bs.length = 132 := by unfold okB at h; simp at h; exact h.2
  rw [okB_yes h1, decide_eq_true_iff] at h
  exact ⟨h1, h, by simp; omega⟩
def inC (bs : List UInt8) : List UInt8 := if okB bs then bs.take 128 else z128
theorem inC_len (bs : List UInt8) : (inC bs).length = 128 := by
  unfold inC
  split
  · rename_i h; exact (okB_back h).2.2
  · rfl
theorem inC_seal {bs : List UInt8} (h : okB bs = true) : sealOf (inC bs) = bs := by
  unfold inC
  rw [if_pos h]
  exact (okB_back h).2.1
attribute [local go_sem ↓] ldB_eq stB_eq ldBs_eq ldC_eq stC_eq ldS_eq
set_option maxRecDepth 100000 in
set_option maxHeartbeats 4000000 in
theorem walk (A : Option Addr) (n c : Nat) (bs : List UInt8) (w : World) (hn : bs.length = n) (hnc : n ≤ c) (hcm : c ≤ maxLen) (hs : Seen w A (bytesV bs)) :
    Calls Try.prog 4 #[.slice A n c] w fun e w' => e = .returned (.bool true) ∧ Below w.heap.size w w' := by
  by_cases h200 : n > 200
  · have g : (n : Int) > 200 := by omega
    clear hn hnc hcm hs h200
    go_enter Try.func4, Try.ntmps4
    go_wp2_with (go_at_call 7; refine (awake_any _).mono ?_; rintro e w7 ⟨rfl, hb7⟩; have Hb7 := Lib.hid hb7; clear hb7)
    go_ret
    exact ⟨rfl, Hb7.out⟩
  have g : ¬ (n : Int) > 200 := by omega
  have hz := zc_run
  have Hn := Lib.hid hn; have Hs := Lib.hid hs
  have Hcm := Lib.hid (show n ≤ c ∧ c ≤ maxLen from ⟨hnc, hcm⟩)
  obtain ⟨ok1, ho1⟩ : ∃ b, okB bs = b := ⟨_, rfl⟩
  obtain ⟨ok2, ho2⟩ : ∃ b, okB (sealOf bs) = b := ⟨_, rfl⟩
  obtain ⟨m1, hm1⟩ : ∃ m, inC bs = m := ⟨_, rfl⟩
  obtain ⟨m2, hm2⟩ : ∃ m, inC (sealOf bs) = m := ⟨_, rfl⟩
  have hl1 : m1.length = 128 := by rw [← hm1]; exact inC_len _
  have hl2 : m2.length = 128 := by rw [← hm2]; exact inC_len _
  have st1 := fun W => stC_new hl1 W
  have st2 := fun W => stC_new hl2 W
  have KL1 : Hid (∀ V, Below w.heap.size w V → Calls Try.prog 13 #[.slice A n c] V fun e w' => e = .returned (.tuple #[.agg (bytesV m1).toArray, .bool ok1]) ∧ Below V.heap.size V w') := Lib.hid fun V hb => by
    have := BLoad_any A n c bs V hn hnc hcm (hs.below hb)
    unfold LoadRet at this
    rw [show (if okB bs = true then bs.take 128 else z128) = m1 from hm1, ho1] at this
    exact this
  have KR1 : Hid (∀ V, Below w.heap.size w V → Calls Try.prog 21 #[.slice A n c] V (RLoadRet bs V)) := Lib.hid fun V hb => RLoad_any A n c bs V hn (by omega) hnc hcm (hs.below hb)
  have KS := Lib.hid (RSeal_any A n c bs w hn hs (by omega))
  have Ho1 := Lib.hid ho1; have Ho2 := Lib.hid ho2; have Hm1 := Lib.hid hm1; have Hm2 := Lib.hid hm2
  clear hn hnc hcm hs ho1 ho2 hm1 hm2
  go_enter Try.func4, Try.ntmps4
  go_wp2_with fail
  refine KS.out.mono ?_
  rintro e w1 ⟨B, d, rfl, hown, hb1⟩
  obtain ⟨sl, hsl⟩ : ∃ s, sealOf bs = s := ⟨_, rfl⟩
  have hsln : sl.length = n + 4 := by rw [← hsl, sealOf_length, Hn.out]
  rw [hsl] at hown Ho2 Hm2
  have elen : (bytesV (sealOf bs)).length = n + 4 := by rw [bytes_length, sealOf_length, Hn.out]
  have elen2 : (bytesV sl).length = n + 4 := by rw [bytes_length, hsln]
  rw [elen2] at hown
  rw [elen]
  obtain ⟨hd1, hd2⟩ := own_cap hown (by omega)
  have Hs1 := Lib.hid (Seen.of_own hown)
  have Hb1 := Lib.hid hb1
  have Hsl := Lib.hid hsl
  have Hsln := Lib.hid hsln
  have KL2 : Hid (∀ V, Below w1.heap.size w1 V → Calls Try.prog 13 #[.slice B (n + 4) d] V fun e w' => e = .returned (.tuple #[.agg (bytesV m2).toArray, .bool ok2]) ∧ Below V.heap.size V w') := Lib.hid fun V hb => by
    have := BLoad_any B (n + 4) d sl V hsln hd1 hd2 (Hs1.out.below hb)
    unfold LoadRet at this
    rw [show (if okB sl = true then sl.take 128 else z128) = m2 from Hm2.out, Ho2.out] at this
    exact this
  have KR2 : Hid (∀ V, Below w1.heap.size w1 V → Calls Try.prog 21 #[.slice B (n + 4) d] V (RLoadRet sl V)) := Lib.hid fun V hb => RLoad_any B (n + 4) d sl V hsln (by omega) hd1 hd2 (Hs1.out.below hb)
  clear hown hb1 hsl elen elen2 KS hsln
  go_wp2_with fail
  refine (KL1.out w1 Hb1.out).mono ?_
  rintro e w2 ⟨rfl, hb2⟩
  have hb2' := hb2.alloc hb2.size (.cells (bytesV m1).toArray 27)
  have Hc2 := Lib.hid (CtAt.new hl1 w2)
  have Hb2 := Lib.hid (Hb1.out.trans (hb2'.mono Hb1.out.size))
  have B2 := Lib.hid hb2'
  clear hb2 hb2' KL1
  go_wp2_with fail
  refine (KR1.out _ Hb2.out).mono ?_
  rintro e w3 ⟨⟨v3, rfl⟩, hb3⟩
  have Hc3 := Lib.hid (Hc2.out.below hb3); have Hb3 := Lib.hid (Hb2.out.trans (hb3.mono Hb2.out.size)); have B3 := Lib.hid (B2.out.trans (hb3.mono B2.out.size))
  rw [Ho1.out]
  clear hb3 KR1 Hc2 Hb2 B2
  go_wp2_with fail
  refine (KL2.out w3 B3.out).mono ?_
  rintro e w4 ⟨rfl, hb4⟩
  have hb4' := hb4.alloc hb4.size (.cells (bytesV m2).toArray 27)
  have Hd4 := Lib.hid (CtAt.new hl2 w4); have Hc4 := Lib.hid (Hc3.out.below hb4'); have Hb4 := Lib.hid (Hb3.out.trans (hb4'.mono Hb3.out.size)); have B4 := Lib.hid (B3.out.trans (hb4'.mono B3.out.size))
  clear hb4 hb4' KL2 Hc3 Hb3 B3
  go_wp2_with fail
  refine (KR2.out _ B4.out).mono ?_
  rintro e w5 ⟨⟨v5, rfl⟩, hb5⟩
  have Hd5 := Lib.hid (Hd4.out.below hb5); have Hc5 := Lib.hid (Hc4.out.below hb5); have Hb5 := Lib.hid (Hb4.out.trans (hb5.mono Hb4.out.size)); have B5 := Lib.hid (B4.out.trans (hb5.mono B4.out.size))
  rw [Ho2.out]
  clear hb5 KR2 Hd4 Hc4 Hb4 B4 st1 st2 hz
  have KC := Lib.hid (fun V (hb : Below w5.heap.size w5 V) => BBytes_any w2.heap.size m1 V (Hc5.out.below hb))
  have KD := Lib.hid (fun V (hb : Below w5.heap.size w5 V) => BBytes_any w4.heap.size m2 V (Hd5.out.below hb))
  cases ok1 with
  | false =>
    cases ok2 with
    | false =>
      go_wp2_with (go_at_call 7; refine (awake_any _).mono ?_; rintro e w7 ⟨rfl, hb7⟩; have Hb7 := Lib.hid (Hb5.out.trans (hb7.mono Hb5.out.size)); clear hb7)
      go_ret
      exact ⟨rfl, Hb7.out⟩
    | true =>
      have he : sealOf m2 = sl := by rw [← Hm2.out]; exact inC_seal Ho2.out
      have hq := (okB_back Ho2.out).1
      have Hq := Lib.hid hq; have He := Lib.hid he
      clear hq he
      go_wp2_with fail
      refine (KD.out w5 (Below.refl _ _)).mono ?_
      rintro e w6 ⟨A6, c6, rfl, hown6, hb6⟩
      rw [He.out] at hown6
      have el : (bytesV (sealOf m2)).length = 132 := by rw [He.out, bytes_length, Hq.out]
      have el2 : (bytesV sl).length = 132 := by rw [bytes_length, Hq.out]
      rw [el2] at hown6
      rw [el]
      have Hs6 := Lib.hid (Seen.of_own hown6); have Hs6' := Lib.hid (Hs1.out.below (B5.out.trans (hb6.mono B5.out.size))); have Hb6 := Lib.hid (Hb5.out.trans (hb6.mono Hb5.out.size))
      clear hown6 hb6 el el2
      go_wp2_with fail
      refine (Same_any A6 B 132 (n + 4) c6 d sl sl w6 Hq.out Hsln.out Hs6.out Hs6'.out (by omega)).mono ?_
      rintro e w7 ⟨rfl, hb7⟩
      rw [decide_eq_true rfl]
      have Hb7 := Lib.hid (Hb6.out.trans (hb7.mono Hb6.out.size))
      clear hb7
      go_wp2_with (go_at_call 7; refine (awake_any _).mono ?_; rintro e w8 ⟨rfl, hb8⟩; have Hb8 := Lib.hid (Hb7.out.trans (hb8.mono Hb7.out.size)); clear hb8)
      go_ret
      exact ⟨rfl, Hb8.out⟩
  | true =>
    cases ok2 with
    | true =>
      exfalso
      have h1 := (okB_back Ho1.out).1
      have h2 := (okB_back Ho2.out).1
      rw [← Hsl.out, sealOf_length] at h2
      omega
    | false =>
      have he : sealOf m1 = bs := by rw [← Hm1.out]; exact inC_seal Ho1.out
      have hq := (okB_back Ho1.out).1
      have Hq := Lib.hid hq; have He := Lib.hid he
      clear hq he
      go_wp2_with fail
      refine (KC.out w5 (Below.refl _ _)).mono ?_
      rintro e w6 ⟨A6, c6, rfl, hown6, hb6⟩
      rw [He.out] at hown6
      have el : (bytesV (sealOf m1)).length = 132 := by rw [He.out, bytes_length, Hq.out]
      have el2 : (bytesV bs).length = 132 := by rw [bytes_length, Hq.out]
      rw [el2] at hown6
      rw [el]
      have Hs6 := Lib.hid (Seen.of_own hown6); have Hs6' := Lib.hid (Hs.out.below (Hb5.out.trans (hb6.mono Hb5.out.size))); have Hb6 := Lib.hid (Hb5.out.trans (hb6.mono Hb5.out.size))
      clear hown6 hb6 el el2
      go_wp2_with fail
      refine (Same_any A6 A 132 n c6 c bs bs w6 Hq.out Hn.out Hs6.out Hs6'.out (by omega)).mono ?_
      rintro e w7 ⟨rfl, hb7⟩
      rw [decide_eq_true rfl]
      have Hb7 := Lib.hid (Hb6.out.trans (hb7.mono Hb6.out.size))
      clear hb7
      go_wp2_with (go_at_call 7; refine (awake_any _).mono ?_; rintro e w8 ⟨rfl, hb8⟩; have Hb8 := Lib.hid (Hb7.out.trans (hb8.mono Hb7.out.size)); clear hb8)
      go_ret
      exact ⟨rfl, Hb8.out⟩
/-! ### THE ROW -/
theorem own : ownKnob Try.prog.godebug = none := by kernel_rfl

set_option maxRecDepth 100000 in
theorem lifted (os : Os) (started : os.Started) (H : Type) (enc : TypeId × Value → H) :
    ReturnsInHanded {} Try.checked os 4 .any (Rows.blockLoadsSpec.pre6 enc Try.prog Try.f4 Rows.blockLoadsRow.domain false) (Rows.blockLoadsSpec.post enc Try.prog Try.f4 false true false false) := by
  refine returnsInHanded_of_change (C := Try.checked) own started (by kernel_rfl) Try.func4
    (ChangeSpec.witness6 (enc := enc) (C := Try.checked) false ⟨#[], #[.slice none 0 0], []⟩ 8 (by kernel_rfl) (by kernel_rfl) (by kernel_rfl) (by kernel_rfl)) ?_
  intro W base args ds gs before hval0 hW hcnd _
  have hval : ∀ (j : Nat) t v, Try.f4.params[j]? = some t → args[j]? = some v → Value.okWide Try.prog W .any base t v := hval0
  have hW' := hW
  obtain ⟨p, q, hA0, hV, rfl, hfz, hnd⟩ := hW
  have hA : DataW.TrodAll enc Try.prog W 0 (fun _ => true) true Try.f4.params.toList args.toList ds p := hA0
  rw [Try.params4] at hA hval
  obtain ⟨v0, vs0, d0, ds0, p0, q0, hargs, rfl, rfl, h0, r0⟩ := trodAll_cons hA
  obtain ⟨rfl, rfl, rfl⟩ := trodAll_nil r0
  obtain rfl : args = #[v0] := by cases args; simp_all
  obtain ⟨rfl, rfl⟩ := trodVars_none hV
  obtain ⟨A0, n0, c0, bs0, rfl, hn0, hnc0, hcm0, hsee0⟩ := open_bytes Try.underlying28 Try.underlying5 (by kernel_rfl) (hval 0 28 v0 rfl rfl) h0
  refine (walk A0 n0 c0 bs0 W hn0 hnc0 hcm0 hsee0).mono fun e W' ⟨he, hg⟩ => ?_
  subst he
  exact ⟨_, rfl, law_post hW' rfl (by kernel_rfl) (by kernel_rfl) (by kernel_rfl) Try.underlying4 rfl rfl rfl hg⟩

theorem over : Rows.blockLoadsRow.holds Try.pinned (OpenSpec.ofChange Rows.blockLoadsSpec) :=
  OpenClaim.holds_of_wide 4 Try.f4 rfl rfl rfl rfl rfl rfl rfl ⟨rfl, rfl, rfl, rfl, rfl⟩ rfl rfl rfl rfl rfl (by kernel_rfl) Try.func4 (by kernel_rfl)
    (of_decide_eq_true (by kernel_rfl)) (by unfold Func.isWrapper; first | (rw [if_pos (by decide +kernel)]; kernel_rfl) | (rw [if_neg (by decide +kernel)]; exact ⟨rfl, rfl⟩))
    (fun os started H enc _ => lifted os started H enc)

theorem proved : Rows.BlockLoadsSaid :=
  over
#print axioms proved

end Go.Proofs.Yteebkolccbcehaa.BlockLoads
