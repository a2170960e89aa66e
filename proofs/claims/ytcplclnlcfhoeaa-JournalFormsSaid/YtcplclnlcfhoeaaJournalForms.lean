/-
  JournalForms: any record has the form that the document says, or none. For every input, without conditions.
-/
import Derived.Test.YtcplclnlcfhoeaaJouA
import Derived.Test.YtcplclnlcfhoeaaJouR
import Derived.Test.YtcplclnlcfhoeaaLaw
namespace Go.Proofs.Ytcplclnlcfhoeaa.journalForms
open Go.ChangeShapes Go.WideShapes Go.ChangeAt Go.RowKit Go.Proofs.Ytcplclnlcfhoeaa
set_option linter.unusedVariables false

set_option maxRecDepth 100000 in
set_option maxHeartbeats 4000000 in
theorem walk (a0 a1 : Int) (A : Option Addr) (n c : Nat) (bs : List UInt8) (w : World) (w0 : (Lit.int .i64 a0).wf = true) (w1 : (Lit.int .i64 a1).wf = true) (hn : bs.length = n) (hnc : n ≤ c) (hcm : c ≤ maxLen) (hs : Seen w A (bytesV bs)) :
    Calls Try.prog 3 #[.int .i64 a0, .int .i64 a1, .slice A n c] w fun e w' => e = .returned (.bool true) ∧ Below w.heap.size w w' := by
  have b0 := bounds_i64 w0
  have b1 := bounds_i64 w1
  have Hn := Lib.hid hn; have Hs := Lib.hid hs
  clear hn hs
  by_cases hl : 1100 < n
  · have hli : (1100 : Int) < (n : Int) := by omega
    go_enter Try.func3, Try.ntmps3
    go_wp2_with (go_at_call 6; refine (awake_any w).mono ?_; rintro e w1 ⟨rfl, hb⟩; have Hb := Lib.hid hb; clear hb)
    go_ret
    exact ⟨rfl, Hb.out⟩
  · have hli : ¬ (1100 : Int) < (n : Int) := by omega
    go_enter Try.func3, Try.ntmps3
    go_wp2_with fail
    refine (Form_any a0 a1 A n c bs w b0.1 b0.2 b1.1 b1.2 Hn.out Hs.out).mono ?_
    rintro e w1 ⟨hb1, (⟨hne, rfl⟩ | ⟨h0, b, rfl, hbb, hblk⟩)⟩
    · have Hb1 := Lib.hid hb1
      have Hne := Lib.hid hne
      clear hb1 hne
      obtain ⟨x, hx⟩ : ∃ x : Int, (formE a0 a1 bs : Int) = x := ⟨_, rfl⟩
      rw [hx]
      have Hx := Lib.hid hx; clear hx
      go_wp2_with fail
      refine (RForm_any a0 a1 A n c bs w1 b0.1 b0.2 b1.1 b1.2 Hn.out (by omega) (Hs.out.below Hb1.out)).mono ?_
      rintro e w2 ⟨hb2, (⟨_, rfl⟩ | ⟨h0, _⟩)⟩
      · rw [Hx.out]
        have Hb2 := Lib.hid (Hb1.out.trans (hb2.mono Hb1.out.size)); clear hb2
        go_wp2_with (first
          | (go_at_call 9; refine (Same_any none none 0 0 0 0 [] [] w2 rfl rfl (Seen.nil _ _) (Seen.nil _ _) (by omega)).mono ?_; rw [decide_eq_true rfl]; rintro e w3 ⟨rfl, hb3⟩; have Hb3 := Lib.hid (Hb2.out.trans (hb3.mono Hb2.out.size)); clear hb3)
          | (go_at_call 6; refine (awake_any w3).mono ?_; rintro e w4 ⟨rfl, hb4⟩; have Hb4 := Lib.hid (Hb3.out.trans (hb4.mono Hb3.out.size)); clear hb4))
        go_ret
        exact ⟨rfl, Hb4.out⟩
      · exact absurd h0 Hne.out
    · have Hb1 := Lib.hid hb1
      have H0 := Lib.hid h0
      have hl1 := form_length 1 a0.toNat a1.toNat bs
      obtain ⟨F, hF⟩ : ∃ F, formX 1 a0.toNat a1.toNat bs = F := ⟨_, rfl⟩
      obtain ⟨N, hN⟩ : ∃ N, 64 * manyOf a0.toNat a1.toNat bs = N := ⟨_, rfl⟩
      have hN16 : N ≤ 1024 := by have := (formE_zero h0).2.2.2.2; omega
      rw [hF, hN] at hl1
      rw [hF] at hblk
      rw [hN]
      have HF := Lib.hid hF; have Hl1 := Lib.hid hl1
      have Hblk := Lib.hid (show Seen w1 (some ⟨b, 0, none⟩) (bytesV F) from by simpa using Seen.of_cells hblk)
      clear hb1 h0 hl1 hF hN hbb hblk
      go_wp2_with fail
      refine (RForm_any a0 a1 A n c bs w1 b0.1 b0.2 b1.1 b1.2 Hn.out (by omega) (Hs.out.below Hb1.out)).mono ?_
      rintro e w2 ⟨hb2, (⟨hne, rfl⟩ | ⟨_, A2, m2, c2, rfl, hm2, hs2⟩)⟩
      · exact absurd H0.out hne
      · rw [HF.out] at hm2 hs2
        obtain rfl : N = m2 := by rw [← hm2, Hl1.out]
        have Hs2 := Lib.hid hs2
        have Hblk2 := Lib.hid (Hblk.out.below hb2)
        have Hb2 := Lib.hid (Hb1.out.trans (hb2.mono Hb1.out.size)); clear hb2 hm2 hs2
        go_wp2_with (first
          | (go_at_call 9; refine (Same_any (some ⟨b, 0, none⟩) A2 N N N c2 F F w2 Hl1.out Hl1.out Hblk2.out Hs2.out (by omega)).mono ?_; rw [decide_eq_true rfl]; rintro e w3 ⟨rfl, hb3⟩; have Hb3 := Lib.hid (Hb2.out.trans (hb3.mono Hb2.out.size)); clear hb3)
          | (go_at_call 6; refine (awake_any w3).mono ?_; rintro e w4 ⟨rfl, hb4⟩; have Hb4 := Lib.hid (Hb3.out.trans (hb4.mono Hb3.out.size)); clear hb4))
        go_ret
        exact ⟨rfl, Hb4.out⟩

/-! ### THE ROW -/
theorem own : ownKnob Try.prog.godebug = none := by kernel_rfl

set_option maxRecDepth 100000 in
theorem lifted (os : Os) (started : os.Started) (H : Type) (enc : TypeId × Value → H) :
    ReturnsInHanded {} Try.checked os 3 .any (Rows.journalFormsSpec.pre6 enc Try.prog Try.f3 Rows.journalFormsRow.domain false) (Rows.journalFormsSpec.post enc Try.prog Try.f3 false true false false) := by
  refine returnsInHanded_of_change (C := Try.checked) own started (by kernel_rfl) Try.func3
    (ChangeSpec.witness6 (enc := enc) (C := Try.checked) false ⟨#[], #[.int .i64 0, .int .i64 0, .slice none 0 0], []⟩ 8 (by kernel_rfl) (by kernel_rfl) (by kernel_rfl) (by kernel_rfl)) ?_
  intro W base args ds gs before hval0 hW hcnd _
  have hval : ∀ (j : Nat) t v, Try.f3.params[j]? = some t → args[j]? = some v → Value.okWide Try.prog W .any base t v := hval0
  have hW' := hW
  obtain ⟨p, q, hA0, hV, rfl, hfz, hnd⟩ := hW
  have hA : DataW.TrodAll enc Try.prog W 0 (fun _ => true) true Try.f3.params.toList args.toList ds p := hA0
  rw [Try.params3] at hA hval
  obtain ⟨v0, vs0, d0, ds0, p0, q0, hargs, rfl, rfl, h0, r0⟩ := trodAll_cons hA
  obtain ⟨v1, vs1, d1, ds1, p1, q1, rfl, rfl, rfl, h1, r1⟩ := trodAll_cons r0
  obtain ⟨v2, vs2, d2, ds2, p2, q2, rfl, rfl, rfl, h2, r2⟩ := trodAll_cons r1
  obtain ⟨rfl, rfl, rfl⟩ := trodAll_nil r2
  obtain rfl : args = #[v0, v1, v2] := by cases args; simp_all
  obtain ⟨rfl, rfl⟩ := trodVars_none hV
  obtain ⟨a0, rfl, rfl, rfl, w0⟩ := open_int Try.underlying3 (hval 0 3 v0 rfl rfl) h0
  obtain ⟨a1, rfl, rfl, rfl, w1⟩ := open_int Try.underlying3 (hval 1 3 v1 rfl rfl) h1
  obtain ⟨A2, n2, c2, bs2, rfl, hn2, hnc2, hcm2, hsee2⟩ := open_bytes Try.underlying22 Try.underlying5 (by kernel_rfl) (hval 2 22 v2 rfl rfl) h2
  refine (walk a0 a1 A2 n2 c2 bs2 W w0 w1 hn2 hnc2 hcm2 hsee2).mono fun e W' ⟨he, hg⟩ => ?_
  subst he
  exact ⟨_, rfl, law_post hW' rfl (by kernel_rfl) (by kernel_rfl) (by kernel_rfl) Try.underlying4 rfl rfl rfl hg⟩

theorem over : Rows.journalFormsRow.holds Try.pinned (OpenSpec.ofChange Rows.journalFormsSpec) :=
  OpenClaim.holds_of_wide 3 Try.f3 rfl rfl rfl rfl rfl rfl rfl ⟨rfl, rfl, rfl, rfl, rfl⟩ rfl rfl rfl rfl rfl (by kernel_rfl) Try.func3 (by kernel_rfl)
    (of_decide_eq_true (by kernel_rfl)) (by unfold Func.isWrapper; first | (rw [if_pos (by decide +kernel)]; kernel_rfl) | (rw [if_neg (by decide +kernel)]; exact ⟨rfl, rfl⟩))
    (fun os started H enc _ => lifted os started H enc)

theorem proved : Rows.JournalFormsSaid :=
  over
#print axioms proved

end Go.Proofs.Ytcplclnlcfhoeaa.journalForms
