/-
  StripeOnce: the pieces of a range have each of its blocks once, in their order, each within its chunk; a range beyond the volume is refused. For any two numbers of 16 bits. No condition but what the row says.
-/
import Derived.Test.YtmdmpliiiecmlaaStrAwk
import Derived.Test.YtmdmpliiiecmlaaRows
import Derived.Test.YtmdmpliiiecmlaaLaw
import Derived.Test.YtmdmpliiiecmlaaChecked
namespace Go.Proofs.Ytmdmpliiiecmlaa.StripeOnce
open Go.ChangeShapes Go.WideShapes Go.ChangeAt Go.RowKit Go.Proofs.Ytmdmpliiiecmlaa
set_option linter.unusedVariables false

theorem u16_of {a : Int} (h : (Lit.int .u16 a).wf = true) : 0 ≤ a ∧ a ≤ 65535 := by
  simp [Lit.wf, IntKind.min, IntKind.max, IntKind.bits, IntKind.signed] at h; omega
/-- where the blocks of the first j pieces end, behind f -/
def endN (f e j : Nat) : Nat := min (8 * (f / 8 + j)) e - f
theorem endN_more {f e j : Nat} (he : f < e) (hj : j < (e - 1) / 8 + 1 - f / 8) :
    ((pcAt f e (f / 8 + j)).pf = (endN f e j : Int)) ∧ 1 ≤ (pcAt f e (f / 8 + j)).ma ∧ 0 ≤ (pcAt f e (f / 8 + j)).pa ∧ (pcAt f e (f / 8 + j)).pa + (pcAt f e (f / 8 + j)).ma ≤ 8 ∧
      8 * (pcAt f e (f / 8 + j)).ch + (pcAt f e (f / 8 + j)).pa = (f : Int) + (endN f e j : Int) ∧ (endN f e j : Int) + (pcAt f e (f / 8 + j)).ma = (endN f e (j + 1) : Int) ∧ 0 ≤ (pcAt f e (f / 8 + j)).ch ∧ (pcAt f e (f / 8 + j)).ch ≤ (e : Int) := by
  unfold endN pcAt
  simp only
  omega
attribute [local go_sem ↓] ldPc_eq
set_option maxRecDepth 100000 in
set_option maxHeartbeats 4000000 in
theorem walk (a b : Int) (w : World) (h0 : (Lit.int .u16 a).wf = true) (h1 : (Lit.int .u16 b).wf = true) :
    Calls Try.prog 4 #[.int .u16 a, .int .u16 b] w fun e w' => e = .returned (.bool true) ∧ Below w.heap.size w w' := by
  obtain ⟨a0, a1⟩ := u16_of h0
  obtain ⟨b0, b1⟩ := u16_of h1
  clear h0 h1
  obtain ⟨f, hf⟩ : ∃ f, a % 512 = f := ⟨_, rfl⟩
  obtain ⟨m, hm⟩ : ∃ m, 1 + b % 512 = m := ⟨_, rfl⟩
  have f0 : 0 ≤ f := by omega
  have f1 : f ≤ 511 := by omega
  have m0 : 1 ≤ m := by omega
  have m1 : m ≤ 512 := by omega
  by_cases hx : 512 < f + m
  · have KS := Lib.hid fun W => SSplit_no 512 f m W (by unfold inI; omega) (by unfold inI; omega) (by unfold inI; omega) (decide_eq_false (by omega))
    go_enter Try.func4, Try.ntmps4
    go_wp2_with (first
      | (go_at_call 7; refine (KS.out _).mono ?_; rintro e w1 ⟨rfl, rfl⟩)
      | (go_at_call 12; refine (awake_any _).mono ?_; rintro e w6 ⟨rfl, hb6⟩; have Hb6 := Lib.hid hb6; clear hb6))
    go_ret
    exact ⟨rfl, Hb6.out⟩
  · have hx' : f + m ≤ 512 := by omega
    obtain ⟨q, hq⟩ : ∃ q : Nat, f = (q : Int) := ⟨f.toNat, by omega⟩
    obtain ⟨p, hp⟩ : ∃ q : Nat, m = (q : Int) := ⟨m.toNat, by omega⟩
    have hL := pcsF_length q (q + p)
    rw [if_pos (by omega)] at hL
    obtain ⟨k, hk⟩ : ∃ k, (q + p - 1) / 8 + 1 - q / 8 = k := ⟨_, rfl⟩
    rw [hk] at hL
    have KS := Lib.hid fun W => (show Calls Try.prog 7 #[.int .i64 512, .int .i64 f, .int .i64 m] W (PcsRet (pcsF q (q + p)) W) by rw [hq, hp]; exact SSplit_yes 512 q p W (by omega) (by omega) (by omega))
    have HL := Lib.hid hL; have Hk := Lib.hid hk; have Hq := Lib.hid hq; have Hp := Lib.hid hp
    have hk65 : k ≤ 65 := by omega
    have hqp : q < q + p := by omega
    have e0 : endN q (q + p) 0 = 0 := by unfold endN; omega
    have ek : endN q (q + p) k = p := by unfold endN; omega
    have E0 := Lib.hid e0; have Ek := Lib.hid ek
    clear hL hk hq hp e0 ek
    go_enter Try.func4, Try.ntmps4
    go_wp2_with (go_at_call 7; refine (KS.out _).mono ?_; rintro e w1 ⟨A1, c1, rfl, h1, b1⟩; rw [HL.out] at h1 ⊢; have H1 := Lib.hid (own_seenM h1); have B1 := Lib.hid b1; clear h1 b1)
    go_loopw [9, 10] (fun nv iv wr => ∃ i : Nat, i ≤ k ∧ iv = .int .i64 (i : Int) ∧ nv = .int .i64 (endN q (q + p) i : Int) ∧ Below w1.heap.size w1 wr) (fun _ iv _ => k - (intOf iv).toNat)
    case atStart => exact ⟨0, Nat.zero_le _, rfl, by rw [E0.out]; rfl, Below.refl _ _⟩
    case round =>
      obtain ⟨i, hi, rfl, rfl, hb⟩ := hrel
      have Hb := Lib.hid hb
      clear hb
      obtain ⟨n, hn⟩ : ∃ n, endN q (q + p) i = n := ⟨_, rfl⟩
      by_cases hlt : i < k
      · obtain ⟨c, hc⟩ : ∃ c, pcAt q (q + p) (q / 8 + i) = c := ⟨_, rfl⟩
        obtain ⟨t0, t1, t2, t3, t4, t5, t6, t7⟩ := endN_more hqp (j := i) (by rw [Hk.out]; exact hlt)
        have hget := pcsF_get (f := q) (e := q + p) hqp (j := i) (by rw [Hk.out]; exact hlt)
        rw [hc] at hget t0 t1 t2 t3 t4 t5 t6 t7
        rw [hn] at t0 t4 t5 ⊢
        have n1 : n ≤ 512 := by rw [← hn]; unfold endN; omega
        obtain ⟨g1, o1, rfl, r1⟩ := PcsAt.get (H1.out.below Hb.out) hget
        obtain ⟨cc, ca, cm, co⟩ := c
        simp only at t0 t1 t2 t3 t4 t5 t6 t7 r1
        subst t0
        rw [← Hq.out] at t4
        have l1 := ldPc_run (p := ⟨cc, ca, cm, (n : Int)⟩) r1
        have t8 : cc ≤ 1024 := by have := Hp.out; have := Hq.out; omega
        have k1 : ((n : Int) != (n : Int)) = false := by simp
        have k2 : (8 * cc + ca != f + (n : Int)) = false := by simpa using t4
        have T5 := Lib.hid t5
        have i0 : (0 : Int) ≤ (i : Int) := by omega
        have i1 : (i : Int) < (k : Int) := by omega
        clear hget r1 hn t4 t5 hc
        go_wp2
        go_roundw
        case rel => exact ⟨i + 1, by omega, by go_num, by rw [T5.out], Hb.out.alloc Hb.out.size _⟩
        case measure => simp [intOf]; omega
      · obtain rfl : i = k := by omega
        have i1 : ¬ (i : Int) < (i : Int) := by omega
        have hnp : (n : Int) = m := by rw [Hp.out, ← Ek.out, hn]
        have k1 : ((n : Int) == m) = true := by rw [hnp]; simp
        rw [hn]
        clear hnp hn
        go_wp2_with (go_at_call 12; refine (awake_any _).mono ?_; rintro e w6 ⟨rfl, hb6⟩; have Hb6 := Lib.hid (B1.out.trans ((Hb.out.trans (hb6.mono Hb.out.size)).mono B1.out.size)); clear hb6)
        go_ret
        exact ⟨rfl, Hb6.out⟩
/-! ### THE ROW -/
theorem own : ownKnob Try.prog.godebug = none := by kernel_rfl

set_option maxRecDepth 100000 in
theorem lifted (os : Os) (started : os.Started) (H : Type) (enc : TypeId × Value → H) :
    ReturnsInHanded {} Try.checked os 4 .any (Rows.stripeOnceSpec.pre6 enc Try.prog Try.f4 Rows.stripeOnceRow.domain false) (Rows.stripeOnceSpec.post enc Try.prog Try.f4 false true false false) := by
  refine returnsInHanded_of_change (C := Try.checked) own started (by kernel_rfl) Try.func4
    (ChangeSpec.witness6 (enc := enc) (C := Try.checked) false ⟨#[], #[.int .u16 0, .int .u16 0], []⟩ 8 (by kernel_rfl) (by kernel_rfl) (by kernel_rfl) (by kernel_rfl)) ?_
  intro W base args ds gs before hval0 hW hcnd _
  have hval : ∀ (j : Nat) t v, Try.f4.params[j]? = some t → args[j]? = some v → Value.okWide Try.prog W .any base t v := hval0
  have hW' := hW
  obtain ⟨p, q, hA0, hV, rfl, hfz, hnd⟩ := hW
  have hA : DataW.TrodAll enc Try.prog W 0 (fun _ => true) true Try.f4.params.toList args.toList ds p := hA0
  rw [Try.params4] at hA hval
  obtain ⟨v0, vs0, d0, ds0, p0, q0, hargs, rfl, rfl, h0, r0⟩ := trodAll_cons hA
  obtain ⟨v1, vs1, d1, ds1, p1, q1, rfl, rfl, rfl, h1, r1⟩ := trodAll_cons r0
  obtain ⟨rfl, rfl, rfl⟩ := trodAll_nil r1
  obtain rfl : args = #[v0, v1] := by cases args; simp_all
  obtain ⟨rfl, rfl⟩ := trodVars_none hV
  obtain ⟨a0, rfl, rfl, rfl, w0⟩ := open_int Try.underlying34 (hval 0 34 v0 rfl rfl) h0
  obtain ⟨a1, rfl, rfl, rfl, w1⟩ := open_int Try.underlying34 (hval 1 34 v1 rfl rfl) h1
  refine (walk a0 a1 W w0 w1).mono fun e W' ⟨he, hg⟩ => ?_
  subst he
  exact ⟨_, rfl, law_post hW' rfl (by kernel_rfl) (by kernel_rfl) (by kernel_rfl) Try.underlying4 rfl rfl rfl hg⟩

theorem over : Rows.stripeOnceRow.holds Try.pinned (OpenSpec.ofChange Rows.stripeOnceSpec) :=
  OpenClaim.holds_of_wide 4 Try.f4 rfl rfl rfl rfl rfl rfl rfl ⟨rfl, rfl, rfl, rfl, rfl⟩ rfl rfl rfl rfl rfl (by kernel_rfl) Try.func4 (by kernel_rfl)
    (of_decide_eq_true (by kernel_rfl)) (by unfold Func.isWrapper; first | (rw [if_pos (by decide +kernel)]; kernel_rfl) | (rw [if_neg (by decide +kernel)]; exact ⟨rfl, rfl⟩))
    (fun os started H enc _ => lifted os started H enc)

theorem proved : Rows.StripeOnceSaid :=
  over
#print axioms proved

end Go.Proofs.Ytmdmpliiiecmlaa.StripeOnce
