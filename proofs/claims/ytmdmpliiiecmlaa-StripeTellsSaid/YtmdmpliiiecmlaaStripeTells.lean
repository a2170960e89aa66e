/-
  StripeTells: any range of any volume has the pieces that the document says, or is refused; how many chunks there are, and where a block is, is what it says. For any three ints. No condition but what the row says.
-/
import Derived.Test.YtmdmpliiiecmlaaStrAwk
import Derived.Test.YtmdmpliiiecmlaaRows
import Derived.Test.YtmdmpliiiecmlaaLaw
import Derived.Test.YtmdmpliiiecmlaaChecked
namespace Go.Proofs.Ytmdmpliiiecmlaa.StripeTells
open Go.ChangeShapes Go.WideShapes Go.ChangeAt Go.RowKit Go.Proofs.Ytmdmpliiiecmlaa
set_option linter.unusedVariables false

attribute [local go_sem ↓] ldPc_eq
set_option maxRecDepth 100000 in
set_option maxHeartbeats 4000000 in
theorem walk (b f m : Int) (w : World) (h0 : (Lit.int .i64 b).wf = true) (h1 : (Lit.int .i64 f).wf = true) (h2 : (Lit.int .i64 m).wf = true) :
    Calls Try.prog 3 #[.int .i64 b, .int .i64 f, .int .i64 m] w fun e w' => e = .returned (.bool true) ∧ Below w.heap.size w w' := by
  have hb := in_of h0; have hf := in_of h1; have hm := in_of h2
  obtain ⟨b1, b2⟩ := id hb
  obtain ⟨f1, f2⟩ := id hf
  obtain ⟨m1, m2⟩ := id hm
  have KC := Lib.hid fun W => SCount b W hb
  have KD := Lib.hid fun W => RCount b W hb
  have KR := Lib.hid fun W => RRight b f m W hb hf hm
  have hce : (countF b != countF b) = false := by simp
  obtain ⟨n, hn⟩ : ∃ n, countF b = n := ⟨_, rfl⟩
  rw [hn] at KC KD hce
  clear hn h0 h1 h2
  by_cases hw : within b f m = true
  · have hx := of_decide_eq_true hw
    obtain ⟨x1, x2, x3, x4, x5⟩ := hx
    rw [hw] at KR
    obtain ⟨q, hq⟩ : ∃ q : Nat, f = (q : Int) := ⟨f.toNat, by omega⟩
    obtain ⟨p, hp⟩ : ∃ q : Nat, m = (q : Int) := ⟨m.toNat, by omega⟩
    obtain ⟨L, hL⟩ : ∃ L, pcsF q (q + p) = L := ⟨_, rfl⟩
    have hLn : L.length ≤ 65 := by rw [← hL, pcsF_length]; split <;> omega
    have KS := Lib.hid (show Calls Try.prog 7 #[.int .i64 b, .int .i64 f, .int .i64 m] w (PcsRet L w) by rw [← hL, hq, hp]; exact SSplit_yes b q p w x2 (by omega) (by omega))
    have KT := Lib.hid fun W => (show Calls Try.prog 13 #[.int .i64 f, .int .i64 m] W (PcsRet1 L W) by rw [← hL, hq, hp]; exact RSplit q p W (by omega) (by omega))
    have KW := Lib.hid fun W => SWhere_yes f W x3 hf
    clear hL hq hp
    obtain ⟨k, hk⟩ : ∃ k, L.length = k := ⟨_, rfl⟩
    have Hk := Lib.hid hk
    have hkn : k ≤ 65 := by rw [← hk]; exact hLn
    clear hLn x1 x2 hce
    clear hw hb hf hm hk b1 b2 m1 m2 x4 x5
    go_enter Try.func3, Try.ntmps3
    go_wp2_with (first
      | (go_at_call 7; refine KS.out.mono ?_; rintro e w1 ⟨A1, c1, rfl, h1, b1⟩; rw [Hk.out] at h1 ⊢; have H1 := Lib.hid h1; have B1 := Lib.hid b1; clear h1 b1)
      | (go_at_call 8; refine (KW.out _).mono ?_; rintro e w2 ⟨rfl, rfl⟩)
      | (go_at_call 9; refine (KC.out _).mono ?_; rintro e w2 ⟨rfl, rfl⟩)
      | (go_at_call 10; refine (KD.out _).mono ?_; rintro e w2 ⟨rfl, rfl⟩)
      | (go_at_call 11; refine (KR.out _).mono ?_; rintro e w2 ⟨rfl, rfl⟩)
      | (go_at_call 13; refine (KT.out _).mono ?_; rintro e w2 ⟨A2, c2, rfl, h2, b2⟩; rw [Hk.out] at h2 ⊢; have H2 := Lib.hid (own_seenM h2); have H3 := Lib.hid (own_seenM (own_belowM H1.out b2)); have B2 := Lib.hid (B1.out.trans (b2.mono B1.out.size)); clear h2 b2))
    go_loopw [12] (fun iv wr => ∃ i : Nat, i ≤ k ∧ iv = .int .i64 (i : Int) ∧ Below w2.heap.size w2 wr) (fun iv _ => k - (intOf iv).toNat)
    case atStart => exact ⟨0, Nat.zero_le _, rfl, Below.refl _ _⟩
    case round =>
      obtain ⟨i, hi, rfl, hb⟩ := hrel
      have Hb := Lib.hid hb
      clear hb
      by_cases hlt : i < k
      · obtain ⟨p, hp⟩ : ∃ p, L[i]? = some p := ⟨_, List.getElem?_eq_getElem (by rw [Hk.out]; exact hlt)⟩
        obtain ⟨g1, o1, rfl, r1⟩ := PcsAt.get (H3.out.below Hb.out) hp
        obtain ⟨g2, o2, rfl, r2⟩ := PcsAt.get (H2.out.below Hb.out) hp
        have l1 := fun n => ldPc_run (w := wr.drewN n) r1
        have l2 := fun n => ldPc_run (w := wr.drewN n) r2
        have q1 := fun op x y p q W => eqGuard_pc op x y p q W
        have q2 := fun W => neqPc_run p W
        have i0 : (0 : Int) ≤ (i : Int) := by omega
        have i1 : (i : Int) < (k : Int) := by omega
        clear hp r1 r2
        go_wp2
        go_quiet (fail)
        go_wp2
        go_roundw
        case rel => exact ⟨i + 1, by omega, by go_num, below_drewN Hb.out _⟩
        case measure => simp [intOf]; omega
      · obtain rfl : i = k := by omega
        have i1 : ¬ (i : Int) < (i : Int) := by omega
        go_wp2_with (go_at_call 12; refine (awake_any _).mono ?_; rintro e w6 ⟨rfl, hb6⟩; have Hb6 := Lib.hid (B2.out.trans ((Hb.out.trans (hb6.mono Hb.out.size)).mono B2.out.size)); clear hb6)
        go_ret
        exact ⟨rfl, Hb6.out⟩
  · have hw' : within b f m = false := by simpa using hw
    rw [hw'] at KR
    have KS := Lib.hid (SSplit_no b f m w hb hf hm hw')
    clear hw hw'
    by_cases hf0 : 0 ≤ f
    · have KW := Lib.hid fun W => SWhere_yes f W hf0 hf
      clear hb hf hm b1 b2 m1 m2 hce
      go_enter Try.func3, Try.ntmps3
      go_wp2_with (first
        | (go_at_call 7; refine KS.out.mono ?_; rintro e w1 ⟨rfl, rfl⟩)
        | (go_at_call 8; refine (KW.out _).mono ?_; rintro e w2 ⟨rfl, rfl⟩)
        | (go_at_call 9; refine (KC.out _).mono ?_; rintro e w2 ⟨rfl, rfl⟩)
        | (go_at_call 10; refine (KD.out _).mono ?_; rintro e w2 ⟨rfl, rfl⟩)
        | (go_at_call 11; refine (KR.out _).mono ?_; rintro e w2 ⟨rfl, rfl⟩)
        | (go_at_call 12; refine (awake_any _).mono ?_; rintro e w6 ⟨rfl, hb6⟩; have Hb6 := Lib.hid hb6; clear hb6))
      go_ret
      exact ⟨rfl, Hb6.out⟩
    · have hf1 : f < 0 := by omega
      have KW := Lib.hid fun W => SWhere_no f W hf1
      clear hb hf hm b1 b2 m1 m2 hce
      go_enter Try.func3, Try.ntmps3
      go_wp2_with (first
        | (go_at_call 7; refine KS.out.mono ?_; rintro e w1 ⟨rfl, rfl⟩)
        | (go_at_call 8; refine (KW.out _).mono ?_; rintro e w2 ⟨rfl, rfl⟩)
        | (go_at_call 9; refine (KC.out _).mono ?_; rintro e w2 ⟨rfl, rfl⟩)
        | (go_at_call 10; refine (KD.out _).mono ?_; rintro e w2 ⟨rfl, rfl⟩)
        | (go_at_call 11; refine (KR.out _).mono ?_; rintro e w2 ⟨rfl, rfl⟩)
        | (go_at_call 12; refine (awake_any _).mono ?_; rintro e w6 ⟨rfl, hb6⟩; have Hb6 := Lib.hid hb6; clear hb6))
      go_ret
      exact ⟨rfl, Hb6.out⟩
/-! ### THE ROW -/
theorem own : ownKnob Try.prog.godebug = none := by kernel_rfl

set_option maxRecDepth 100000 in
theorem lifted (os : Os) (started : os.Started) (H : Type) (enc : TypeId × Value → H) :
    ReturnsInHanded {} Try.checked os 3 .any (Rows.stripeTellsSpec.pre6 enc Try.prog Try.f3 Rows.stripeTellsRow.domain false) (Rows.stripeTellsSpec.post enc Try.prog Try.f3 false true false false) := by
  refine returnsInHanded_of_change (C := Try.checked) own started (by kernel_rfl) Try.func3
    (ChangeSpec.witness6 (enc := enc) (C := Try.checked) false ⟨#[], #[.int .i64 0, .int .i64 0, .int .i64 0], []⟩ 8 (by kernel_rfl) (by kernel_rfl) (by kernel_rfl) (by kernel_rfl)) ?_
  intro W base args ds gs before hval0 hW hcnd _
  have hval : ∀ (j : Nat) t v, Try.f3.params[j]? = some t → args[j]? = some v → Value.okWide Try.prog W .any base t v := hval0
  have hW' := hW
  obtain ⟨p, q, hA0, hV, rfl, hfz, hnd⟩ := hW
  have hA : DataW.TrodAll enc Try.prog W 0 (fun _ => true) true Try.f3.params.toList args.toList ds p := hA0
  rw [Try.params3] at hA hval
  obtain ⟨v0, vs0, d0, ds0, p0, q0, hargs, rfl, rfl, h0, r0⟩ := trodAll_cons hA
  obtain ⟨v1, vs1, d1, ds1, p1, q1, rfl, rfl, rfl, h1, r1⟩ := trodAll_cons r0
  obtain ⟨v2, vs2, d2, ds2, p2, q2, rfl, rfl, rfl, h2, r2⟩ := trodAll_cons r1
  obtain ⟨rfl, rfl, rfl⟩ := trodAll_nil r2
  obtain rfl : args = #[v0, v1, v2] := by cases args; simp_all
  obtain ⟨rfl, rfl⟩ := trodVars_none hV
  obtain ⟨a0, rfl, rfl, rfl, w0⟩ := open_int Try.underlying3 (hval 0 3 v0 rfl rfl) h0
  obtain ⟨a1, rfl, rfl, rfl, w1⟩ := open_int Try.underlying3 (hval 1 3 v1 rfl rfl) h1
  obtain ⟨a2, rfl, rfl, rfl, w2⟩ := open_int Try.underlying3 (hval 2 3 v2 rfl rfl) h2
  refine (walk a0 a1 a2 W w0 w1 w2).mono fun e W' ⟨he, hg⟩ => ?_
  subst he
  exact ⟨_, rfl, law_post hW' rfl (by kernel_rfl) (by kernel_rfl) (by kernel_rfl) Try.underlying4 rfl rfl rfl hg⟩

theorem over : Rows.stripeTellsRow.holds Try.pinned (OpenSpec.ofChange Rows.stripeTellsSpec) :=
  OpenClaim.holds_of_wide 3 Try.f3 rfl rfl rfl rfl rfl rfl rfl ⟨rfl, rfl, rfl, rfl, rfl⟩ rfl rfl rfl rfl rfl (by kernel_rfl) Try.func3 (by kernel_rfl)
    (of_decide_eq_true (by kernel_rfl)) (by unfold Func.isWrapper; first | (rw [if_pos (by decide +kernel)]; kernel_rfl) | (rw [if_neg (by decide +kernel)]; exact ⟨rfl, rfl⟩))
    (fun os started H enc _ => lifted os started H enc)

theorem proved : Rows.StripeTellsSaid :=
  over
#print axioms proved

end Go.Proofs.Ytmdmpliiiecmlaa.StripeTells
