/-
  BlockOthers: behind any acts (up to 60) what is written to a block of a copy is read there, and no other block is changed; trimmed it is 0; it holds for every input, and the arguments stay as they were. No condition.
-/
import Derived.Test.YteebkolccbcehaaBlkAwk
import Derived.Test.YteebkolccbcehaaBlkDo
import Derived.Test.YteebkolccbcehaaLaw
import Derived.Test.YteebkolccbcehaaChecked
namespace Go.Proofs.Yteebkolccbcehaa.BlockOthers
open Go.ChangeShapes Go.WideShapes Go.ChangeAt Go.RowKit Go.Proofs.Yteebkolccbcehaa
set_option linter.unusedVariables false
set_option linter.unusedSimpArgs false

attribute [local go_sem ↓] ldB_eq stB_eq ldBs_eq ldC_eq stC_eq ldS_eq
set_option maxRecDepth 100000 in
set_option maxHeartbeats 4000000 in
theorem walk (A : Option Addr) (n c : Nat) (l : List Act8) (a : Int) (b : List UInt8) (w : World) (hn : l.length = n) (hnc : n ≤ c) (hcm : c ≤ maxLen) (hf : Acts8At w A l) (ha : (Lit.int .u8 a).wf = true) (hb : b.length = 16) :
    Calls Try.prog 6 #[.slice A n c, .int .u8 a, .agg (bytesV b).toArray] w fun e w' => e = .returned (.bool true) ∧ Below w.heap.size w w' := by
  by_cases h60 : ¬ n ≤ 60
  · have g : (n : Int) > 60 := by omega
    clear hn hnc hcm hf h60 ha
    go_enter Try.func6, Try.ntmps6
    go_wp2_with (go_at_call 7; refine (awake_any _).mono ?_; rintro e w7 ⟨rfl, hb7⟩; have Hb7 := Lib.hid (((Below.refl _ w).alloc (Nat.le_refl _) (.cells (bytesV b).toArray 24)).trans (hb7.mono (by simp))); clear hb7)
    go_ret
    exact ⟨rfl, Hb7.out⟩
  have h60' : n ≤ 60 := by omega
  have g : ¬ (n : Int) > 60 := by omega
  have hz := zc_run
  have ha2 : 0 ≤ a ∧ a ≤ 255 := by simp [Lit.wf, IntKind.min, IntKind.max, IntKind.bits, IntKind.signed] at ha; omega
  obtain ⟨a0, a1⟩ := ha2
  obtain ⟨i, hi, hi8⟩ : ∃ i : Nat, a % 8 = (i : Int) ∧ i < 8 := ⟨(a % 8).toNat, by omega, by omega⟩
  have hb0 := (Below.refl _ w).alloc (Nat.le_refl _) (.cells (bytesV b).toArray 24)
  have hs0 : Seen (w.alloc (.cells (bytesV b).toArray 24)) (some ⟨w.heap.size, 0, none⟩) (bytesV b) := by have := Seen.of_cells (heap_alloc_new w (.cells (bytesV b).toArray 24)); simpa using this
  obtain ⟨W, hW⟩ : ∃ W, w.alloc (.cells (bytesV b).toArray 24) = W := ⟨_, rfl⟩
  rw [hW] at hb0 hs0
  have hWs : W.heap.size = w.heap.size + 1 := by rw [← hW]; simp
  have hc0 := CtAt.new (m := z128) rfl W
  have hb1 := (Below.refl _ W).alloc (Nat.le_refl _) (.cells (bytesV z128).toArray 27)
  have K1 := Lib.hid (do_any W.heap.size z128 A n c l W (W.alloc (.cells (bytesV z128).toArray 27)) hc0 hn h60' (hf.below hb0) hb1 (Nat.le_refl _))
  obtain ⟨m0, hm0⟩ : ∃ m, doF z128 l = m := ⟨_, rfl⟩
  rw [hm0] at K1
  have Hb0 := Lib.hid hb0; have Hb1 := Lib.hid (hb0.trans (hb1.mono hb0.size)); have Hs1 := Lib.hid (hs0.below hb1); have Hs0 := Lib.hid hs0
  have HW := Lib.hid hWs
  have Hb := Lib.hid hb; have Hi := Lib.hid hi8
  have B1 := Lib.hid hb1
  clear hb0 hs0 hWs hc0 hb1 hm0 hn hf h60 h60' hb ha hnc hcm
  go_enter Try.func6, Try.ntmps6
  go_wp2_with fail
  refine K1.out.mono ?_
  rintro e w1 ⟨rfl, hc1, ht1⟩
  obtain ⟨G, hG⟩ : ∃ G, W.heap.size = G := ⟨_, rfl⟩
  have hGw : w.heap.size < G := by have := HW.out; omega
  rw [hG] at hc1 ht1 B1
  rw [hG]
  have hs1 := ht1.seen Hs1.out (fun g o e => by injection e with e; injection e with e1 e2; omega)
  have hb1 := Hb1.out.trans (ht1.below (fun k e => by omega) Hb1.out.size)
  have hlc := ldC_run hc1
  have hst := stC_new hc1.len w1
  have hlt : G < w1.heap.size := hc1.lt
  have hbd := (Below.refl _ w1).alloc (Nat.le_refl _) (.cells (bytesV m0).toArray 27)
  have hml := hc1.len
  have Hc2 := Lib.hid (hc1.below hbd); have Hd2 := Lib.hid (CtAt.new hml w1); have Hs2 := Lib.hid (hs1.below hbd); have Hb2 := Lib.hid (hb1.trans (hbd.mono hb1.size))
  have Hml := Lib.hid hml
  obtain ⟨D, hD⟩ : ∃ D, w1.heap.size = D := ⟨_, rfl⟩
  have hGD : G < D := by omega
  obtain ⟨m1, hm1⟩ : ∃ m, setB m0 i b = m := ⟨_, rfl⟩
  have hml1 : m1.length = 128 := by rw [← hm1]; exact setB_length hml Hi.out Hb.out
  have Hg1 : Hid (getB m1 i = b) := Lib.hid (by rw [← hm1]; exact getB_set hml Hi.out Hb.out)
  have Hg2 : Hid (∀ k, k ≠ i → getB m1 k = getB m0 k) := Lib.hid fun k hk => by rw [← hm1]; exact getB_set_ne hml Hi.out Hb.out hk
  have Hm1 := Lib.hid hm1; have Hml1 := Lib.hid hml1; have HD := Lib.hid hD; have HGD := Lib.hid hGD; have HGw := Lib.hid hGw
  clear hc1 ht1 hb1 hs1 hlt hbd K1 hm1 hG hD hGw hml hGD hml1 B1 HW Hs0 Hs1 Hb0 Hb1 hW
  go_wp2_with fail
  rw [HD.out]
  rw [HD.out] at Hd2
  refine (BWrite_yes D m0 i (some ⟨w.heap.size, 0, none⟩) 16 b _ Hd2.out Hi.out Hb.out Hs2.out).mono ?_
  rintro e w2 ⟨rfl, hd3, ht3⟩
  rw [Hm1.out] at hd3
  have hDw : w.heap.size < D := by have := HGD.out; have := HGw.out; omega
  have Hd3 := Lib.hid hd3; have Hc3 := Lib.hid (Hc2.out.turned ht3 (by have := HGD.out; omega)); have Hs3 := Lib.hid (ht3.seen Hs2.out (fun g o e => by injection e with e; injection e with e1 e2; omega)); have Hb3 := Lib.hid (Hb2.out.trans (ht3.below (fun k e => by omega) Hb2.out.size))
  have HDw := Lib.hid hDw
  clear hd3 ht3 Hd2 Hc2 Hs2 Hb2 hlc hst hz hDw
  go_wp2_with fail
  go_loopw [10] (fun iv wr => ∃ k : Nat, k ≤ 8 ∧ iv = .int .i64 (k : Int) ∧ Below w2.heap.size w2 wr) (fun iv _ => 8 - (intOf iv).toNat)
  case atStart => exact ⟨0, by omega, rfl, Below.refl _ _⟩
  case round =>
    obtain ⟨k, hk, rfl, hbr⟩ := hrel
    have Hbr := Lib.hid hbr
    clear hbr
    by_cases hlt : k < 8
    · have k8 : (k : Int) < 8 := by omega
      have KC := Lib.hid (BRead_yes G m0 k wr (Hc3.out.below Hbr.out) hlt)
      have KD := Lib.hid (fun V (hb : Below wr.heap.size wr V) => BRead_yes D m1 k V ((Hd3.out.below Hbr.out).below hb) hlt)
      go_wp2_with fail
      refine KC.out.mono ?_
      rintro e v1 ⟨rfl, hx1, hv1⟩
      have Hx1 := Lib.hid hx1; have Hv1 := Lib.hid hv1
      clear hx1 hv1 KC
      go_wp2_with fail
      refine (KD.out v1 Hv1.out).mono ?_
      rintro e v2 ⟨rfl, hy2, hv2⟩
      have Hy2 := Lib.hid hy2; have Hx2 := Lib.hid (Hx1.out.below hv2); have Hv2 := Lib.hid (Hv1.out.trans (hv2.mono Hv1.out.size))
      clear hy2 hv2 KD Hx1 Hv1
      have hl1 := getB_length (i := k) Hml.out hlt
      have hl2 := getB_length (i := k) Hml1.out hlt
      have HL1 := Lib.hid hl1; have HL2 := Lib.hid hl2
      clear hl1 hl2
      by_cases hki : k = i
      · subst hki
        have he : getB m1 k = b := Hg1.out
        have He := Lib.hid he
        have hs2 := (Hs3.out.below Hbr.out).below Hv2.out
        have Hss := Lib.hid hs2
        clear he hs2
        go_wp2_with (go_at_call 17; refine (Same_any (some ⟨v1.heap.size, 0, none⟩) (some ⟨w.heap.size, 0, none⟩) 16 16 16 16 (getB m1 k) b _ HL2.out Hb.out Hy2.out Hss.out (by omega)).mono ?_; rintro e v3 ⟨rfl, hv3⟩; rw [decide_eq_true He.out]; have Hv3 := Lib.hid (Hv2.out.trans (hv3.mono Hv2.out.size)); clear hv3)
        go_roundw
        case rel => exact ⟨k + 1, by omega, by go_num, Hbr.out.trans (Hv3.out.mono Hbr.out.size)⟩
        case measure => simp [intOf]; omega
      · have he : getB m0 k = getB m1 k := (Hg2.out k hki).symm
        have He := Lib.hid he
        have hne : ((k : Int) == (i : Int)) = false := by rw [beq_eq_false_iff_ne]; omega
        have hne2 : ((k : Int) != (i : Int)) = true := by unfold bne; rw [hne]; rfl
        clear he hki
        go_wp2_with (go_at_call 17; refine (Same_any (some ⟨wr.heap.size, 0, none⟩) (some ⟨v1.heap.size, 0, none⟩) 16 16 16 16 (getB m0 k) (getB m1 k) _ HL1.out HL2.out Hx2.out Hy2.out (by omega)).mono ?_; rintro e v3 ⟨rfl, hv3⟩; rw [decide_eq_true He.out]; have Hv3 := Lib.hid (Hv2.out.trans (hv3.mono Hv2.out.size)); clear hv3)
        go_roundw
        case rel => exact ⟨k + 1, by omega, by go_num, Hbr.out.trans (Hv3.out.mono Hbr.out.size)⟩
        case measure => simp [intOf]; omega
    · obtain rfl : k = 8 := by omega
      have Hd4 := Lib.hid (Hd3.out.below Hbr.out)
      have Hb4 := Lib.hid (Hb3.out.trans (Hbr.out.mono Hb3.out.size))
      go_wp2_with fail
      refine (BTrim_yes D m1 i wr Hd4.out Hi.out).mono ?_
      rintro e w5 ⟨rfl, hd5, ht5⟩
      have Hd5 := Lib.hid hd5; have Hb5 := Lib.hid (Hb4.out.trans (ht5.below (fun k e => by have := HDw.out; omega) Hb4.out.size))
      clear hd5 ht5
      go_wp2_with fail
      refine (BRead_yes D (setB m1 i zB) i w5 Hd5.out Hi.out).mono ?_
      rintro e w6 ⟨rfl, hs6, hb6⟩
      rw [getB_set Hml1.out Hi.out (by rfl)] at hs6
      have Hs6 := Lib.hid hs6; have Hb6 := Lib.hid (Hb5.out.trans (hb6.mono Hb5.out.size))
      clear hs6 hb6
      obtain ⟨i0, hif, hz0, hz1, hz2⟩ := info_parts u8_info
      go_wp2_with (first
        | (at_make; go_loud (refine wpList_make_full _ rfl (.const (.int .i64 16)) (.const (.int .i64 16)) _ rfl w6.heap.size 5 i0 (.int .u8 0) 1 Try.underlying28 hif hz0 hz1 .i64 .i64 _ _ 16 rfl rfl (by omega) (by omega) (by rw [hz2]; omega) (by unfold maxLen; omega) (Nat.le_refl _) ?_; intro w7 hown hgr; rw [made_u8] at hown; have Hz7 := Lib.hid (Seen.of_own hown); have B7 := Lib.hid ((Below.refl w6.heap.size w6).grown hgr (Nat.le_refl _) (fun k e => by cases e)); clear hown hgr))
        | (go_at_call 17; refine (Same_any (some ⟨w5.heap.size, 0, none⟩) _ 16 16 16 16 zB zB _ rfl rfl (Hs6.out.below B7.out) Hz7.out (by omega)).mono ?_; rintro e w8 ⟨rfl, hb8⟩; rw [decide_eq_true rfl]; have Hb8 := Lib.hid (Hb6.out.trans ((B7.out.trans (hb8.mono B7.out.size)).mono Hb6.out.size)); clear hb8)
        | (go_at_call 7; refine (awake_any _).mono ?_; rintro e w9 ⟨rfl, hb9⟩; have Hb9 := Lib.hid (Hb8.out.trans (hb9.mono Hb8.out.size)); clear hb9))
      go_ret
      exact ⟨rfl, Hb9.out⟩
/-! ### THE ROW -/
theorem own : ownKnob Try.prog.godebug = none := by kernel_rfl

set_option maxRecDepth 100000 in
theorem lifted (os : Os) (started : os.Started) (H : Type) (enc : TypeId × Value → H) :
    ReturnsInHanded {} Try.checked os 6 .any (Rows.blockOthersSpec.pre6 enc Try.prog Try.f6 Rows.blockOthersRow.domain false) (Rows.blockOthersSpec.post enc Try.prog Try.f6 false true false false) := by
  refine returnsInHanded_of_change (C := Try.checked) own started (by kernel_rfl) Try.func6
    (ChangeSpec.witness6 (enc := enc) (C := Try.checked) false ⟨#[], #[.slice none 0 0, .int .u8 0, .agg #[.int .u8 0, .int .u8 0, .int .u8 0, .int .u8 0, .int .u8 0, .int .u8 0, .int .u8 0, .int .u8 0, .int .u8 0, .int .u8 0, .int .u8 0, .int .u8 0, .int .u8 0, .int .u8 0, .int .u8 0, .int .u8 0]], []⟩ 8 (by kernel_rfl) (by kernel_rfl) (by kernel_rfl) (by kernel_rfl)) ?_
  intro W base args ds gs before hval0 hW hcnd _
  have hval : ∀ (j : Nat) t v, Try.f6.params[j]? = some t → args[j]? = some v → Value.okWide Try.prog W .any base t v := hval0
  have hW' := hW
  obtain ⟨p, q, hA0, hV, rfl, hfz, hnd⟩ := hW
  have hA : DataW.TrodAll enc Try.prog W 0 (fun _ => true) true Try.f6.params.toList args.toList ds p := hA0
  rw [Try.params6] at hA hval
  obtain ⟨v0, vs0, d0, ds0, p0, q0, hargs, rfl, rfl, h0, r0⟩ := trodAll_cons hA
  obtain ⟨v1, vs1, d1, ds1, p1, q1, rfl, rfl, rfl, h1, r1⟩ := trodAll_cons r0
  obtain ⟨v2, vs2, d2, ds2, p2, q2, rfl, rfl, rfl, h2, r2⟩ := trodAll_cons r1
  obtain ⟨rfl, rfl, rfl⟩ := trodAll_nil r2
  obtain rfl : args = #[v0, v1, v2] := by cases args; simp_all
  obtain ⟨rfl, rfl⟩ := trodVars_none hV
  obtain ⟨A0, n0, c0, fs0, rfl, hn0, hnc0, hcm0, hf0⟩ := open_acts8 Try.underlying22 Try.underlying31 rfl rfl rfl rfl rfl rfl Try.underlying3 Try.underlying3 Try.underlying28 Try.underlying5 (by kernel_rfl) (by kernel_rfl) (by kernel_rfl) (by kernel_rfl) (by kernel_rfl) (hval 0 22 v0 rfl rfl) h0
  obtain ⟨a1, rfl, rfl, rfl, w1⟩ := open_int Try.underlying5 (hval 1 5 v1 rfl rfl) h1
  obtain ⟨bs2, rfl, hb2⟩ := open_arr16 Try.underlying24 Try.underlying5 (by kernel_rfl) (by kernel_rfl) (hval 2 24 v2 rfl rfl) h2
  refine (walk A0 n0 c0 fs0 a1 bs2 W hn0 hnc0 hcm0 hf0 w1 hb2).mono fun e W' ⟨he, hg⟩ => ?_
  subst he
  exact ⟨_, rfl, law_post hW' rfl (by kernel_rfl) (by kernel_rfl) (by kernel_rfl) Try.underlying4 rfl rfl rfl hg⟩

theorem over : Rows.blockOthersRow.holds Try.pinned (OpenSpec.ofChange Rows.blockOthersSpec) :=
  OpenClaim.holds_of_wide 6 Try.f6 rfl rfl rfl rfl rfl rfl rfl ⟨rfl, rfl, rfl, rfl, rfl⟩ rfl rfl rfl rfl rfl (by kernel_rfl) Try.func6 (by kernel_rfl)
    (of_decide_eq_true (by kernel_rfl)) (by unfold Func.isWrapper; first | (rw [if_pos (by decide +kernel)]; kernel_rfl) | (rw [if_neg (by decide +kernel)]; exact ⟨rfl, rfl⟩))
    (fun os started H enc _ => lifted os started H enc)

theorem proved : Rows.BlockOthersSaid :=
  over
#print axioms proved

end Go.Proofs.Yteebkolccbcehaa.BlockOthers
