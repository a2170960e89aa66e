/- For any message m, FramesForms returns true: any message is right, and has the form, that the document says, and is read as it was; a message that is greater than what is looked at asks the document's example alone. Conditions: none. -/
import Derived.Test.YtmlmkfooiikcgaaRows
import Derived.Test.YtmlmkfooiikcgaaLaw
import Derived.Test.YtmlmkfooiikcgaaFraA
import Derived.Test.YtmlmkfooiikcgaaFraG
namespace Go.Proofs.Ytmlmkfooiikcgaa.framesForms
open Go.ChangeShapes Go.WideShapes Go.ChangeAt Go.RowKit
set_option linter.unusedVariables false
attribute [local go_sem ↓] ldMsg_eq

set_option maxRecDepth 100000 in
set_option maxHeartbeats 2000000 in
theorem walk (m : Msg) (N B L : Option Addr) (nn nc bn bc ln lc : Nat) (w : World) (h : MsgAt w m N nn nc B bn bc L ln lc) :
    Calls Try.prog 3 #[.agg #[.int .i64 m.k, .slice N nn nc, .slice B bn bc, .slice L ln lc]] w fun e w' => e = .returned (.bool true) ∧ Below w.heap.size w w' := by
  have H := Lib.hid h; clear h
  obtain ⟨w1, hw1, hb1, hh1⟩ : ∃ w1, w.alloc (.cells #[.int .i64 m.k, .slice N nn nc, .slice B bn bc, .slice L ln lc] 26) = w1 ∧ Below w.heap.size w w1 ∧ w1.heap[w.heap.size]? = some (.cells #[.int .i64 m.k, .slice N nn nc, .slice B bn bc, .slice L ln lc] 26 (0, 0)) :=
    ⟨_, rfl, (Below.refl _ _).alloc (Nat.le_refl _) _, heap_alloc_new _ _⟩
  have Hh1 := Lib.hid hh1; have Hb1 := Lib.hid hb1
  have Hld := Lib.hid (fun (w' : World) (hb : Below w1.heap.size w1 w') => ldMsg_run (row_below hh1 hb))
  have hl1 := Hld.out w1 (Below.refl _ _)
  clear hh1 hb1
  go_enter Try.func3, Try.ntmps3
  go_wp2_with fail
  refine (Great_any m N B L nn nc bn bc ln lc w1 (H.out.below Hb1.out)).mono ?_
  rintro e w2 ⟨hg, hb2⟩
  have hl2 := Hld.out w2 hb2
  have Hw2 := Lib.hid hb2
  have Hb2 := Lib.hid (Hb1.out.trans (hb2.mono Hb1.out.size))
  clear hb2 hw1 hl1
  rcases hg with rfl | rfl
  · go_wp2_with (go_at_call 9; refine (awake_any _).mono ?_; rintro e w3 ⟨rfl, hb3⟩)
    go_ret
    exact ⟨rfl, Hb2.out.trans (hb3.mono Hb2.out.size)⟩
  · cases hr : rightM m with
    | false =>
      have Hput := Lib.hid (Put_no m N B L nn nc bn bc ln lc w2 (H.out.below Hb2.out) hr)
      have Hright := Lib.hid (fun w' (hb : Below w.heap.size w w') => Right_any m N B L nn nc bn bc ln lc w' (H.out.below hb))
      have Hchk := Lib.hid (fun w' (hb : Below w.heap.size w w') => Check_any m N B L nn nc bn bc ln lc w' (H.out.below hb))
      have Hr := Lib.hid hr; have Hc := Lib.hid (chk_no hr)
      clear hr
      go_wp2_with fail
      refine Hput.out.mono ?_
      rintro e w3 ⟨rfl, hb3⟩
      have Hw3 := Lib.hid (Hw2.out.trans (hb3.mono Hw2.out.size))
      have Hb3 := Lib.hid (Hb2.out.trans (hb3.mono Hb2.out.size))
      have hl3 := Hld.out w3 Hw3.out
      clear hb3 hl2
      go_wp2_with fail
      refine (Hright.out w3 Hb3.out).mono ?_
      rw [Hr.out]
      rintro e w4 ⟨rfl, hb4⟩
      have Hw4 := Lib.hid (Hw3.out.trans (hb4.mono Hw3.out.size))
      have Hb4 := Lib.hid (Hb3.out.trans (hb4.mono Hb3.out.size))
      have hl4 := Hld.out w4 Hw4.out
      clear hb4 hl3
      go_wp2_with (first
        | (go_at_call 12; refine (Hchk.out w4 Hb4.out).mono ?_; rw [Hc.out]; rintro e w5 ⟨rfl, hb5⟩; have Hb5 := Lib.hid (Hb4.out.trans (hb5.mono Hb4.out.size)); clear hb5)
        | (go_at_call 9; refine (awake_any _).mono ?_; rintro e w6 ⟨rfl, hb6⟩))
      go_ret
      exact ⟨rfl, Hb5.out.trans (hb6.mono Hb5.out.size)⟩
    | true =>
      have Hput := Lib.hid (Put_yes m N B L nn nc bn bc ln lc w2 (H.out.below Hb2.out) hr)
      have Hright := Lib.hid (fun w' (hb : Below w.heap.size w w') => Right_any m N B L nn nc bn bc ln lc w' (H.out.below hb))
      have Hchk := Lib.hid (fun w' (hb : Below w.heap.size w w') => Check_any m N B L nn nc bn bc ln lc w' (H.out.below hb))
      have Hrput := Lib.hid (fun w' (hb : Below w.heap.size w w') => RPut_any m N B L nn nc bn bc ln lc w' (H.out.below hb) hr)
      have Hr := Lib.hid hr; have Hc := Lib.hid (chk_yes hr); have Hform := Lib.hid (readM_form hr)
      have hfl := fields_len hr
      have hsl : (formM m).length = (fieldsM m).length + 4 := sealOf_length _
      clear hr
      go_wp2_with fail
      refine Hput.out.mono ?_
      rintro e w3 ⟨A3, n3, c3, rfl, hlen, hown, hb3⟩
      have hn3 : n3 ≤ 70004 := by omega
      have hcap := own_cap0 hown
      have Hlen := Lib.hid hlen; have Own3 := Lib.hid hown; have Hcap := Lib.hid hcap
      have Hw3 := Lib.hid (Hw2.out.trans (hb3.mono Hw2.out.size))
      have Hb3 := Lib.hid (Hb2.out.trans (hb3.mono Hb2.out.size))
      have hl3 := Hld.out w3 Hw3.out
      clear hb3 hl2 hlen hown hcap hfl hsl
      go_wp2_with fail
      refine (Hright.out w3 Hb3.out).mono ?_
      rw [Hr.out]
      rintro e w4 ⟨rfl, hb4⟩
      have Own4 := Lib.hid (own_below Own3.out hb4)
      have Hw4 := Lib.hid (Hw3.out.trans (hb4.mono Hw3.out.size))
      have Hb4 := Lib.hid (Hb3.out.trans (hb4.mono Hb3.out.size))
      clear hb4 hl3
      go_wp2_with fail
      refine (Read_any A3 n3 c3 (formM m) w4 Hlen.out (by omega) Hcap.out.1 Hcap.out.2 (Seen.of_own Own4.out) Hform.out).mono ?_
      rintro e w5 ⟨N5, nn5, nc5, B5, bn5, bc5, L5, ln5, lc5, rfl, hm5, hb5⟩
      obtain ⟨w6, hw6, hb6, hh6⟩ : ∃ w6, w5.alloc (.cells #[.int .i64 m.k, .slice N5 nn5 nc5, .slice B5 bn5 bc5, .slice L5 ln5 lc5] 26) = w6 ∧ Below w5.heap.size w5 w6 ∧ w6.heap[w5.heap.size]? = some (.cells #[.int .i64 m.k, .slice N5 nn5 nc5, .slice B5 bn5 bc5, .slice L5 ln5 lc5] 26 (0, 0)) :=
        ⟨_, rfl, (Below.refl _ _).alloc (Nat.le_refl _) _, heap_alloc_new _ _⟩
      have Hld6 := Lib.hid (fun (w' : World) (hb : Below w6.heap.size w6 w') => ldMsg_run (row_below hh6 hb))
      have Hm6 := Lib.hid (hm5.below hb6)
      have Own6 := Lib.hid (own_below (own_below Own4.out hb5) hb6)
      have Hw5 := Hw4.out.trans (hb5.mono Hw4.out.size)
      have Hw6 := Lib.hid (Hw5.trans (hb6.mono Hw5.size))
      have Hb5 := Hb4.out.trans (hb5.mono Hb4.out.size)
      have Hb6 := Lib.hid (Hb5.trans (hb6.mono Hb5.size))
      have hl6 := Hld.out w6 Hw6.out
      have Hw6e := Lib.hid hw6
      clear hb5 hb6 hm5 hh6 Hw5 Hb5 hw6
      have hsame : decide (formM m = formM m) = true := decide_eq_true rfl
      have Hsame := Lib.hid hsame; clear hsame
      have hfl2 : (bytesV (formM m)).length = n3 := by rw [bytes_length]; exact Hlen.out
      have Hfl2 := Lib.hid hfl2; clear hfl2
      go_wp2_with (first
        | (refine wpList_store_row rfl 26 (.tmp 5) (.tmp 37) rfl w5.heap.size #[.int .i64 m.k, .slice N5 nn5 nc5, .slice B5 bn5 bc5, .slice L5 ln5 lc5] rfl rfl 26 _ (heap_alloc_new _ _) msg_info rfl (by simp [Value.oneCell']) ?_; rw [World.setRow_alloc_new, Hw6e.out])
        | (go_at_call 12; refine (Hchk.out w6 Hb6.out).mono ?_; rw [Hc.out]; rintro e w7 ⟨rfl, hb7⟩; have Hq7 := Lib.hid hb7; have Own7 := Lib.hid (own_below Own6.out hb7); have Hw7 := Lib.hid (Hw6.out.trans (hb7.mono Hw6.out.size)); have Hb7 := Lib.hid (Hb6.out.trans (hb7.mono Hb6.out.size)); have hl7 := Hld.out w7 Hw7.out; clear hb7)
        | (go_at_call 15; refine (Hrput.out w7 Hb7.out).mono ?_; rintro e w8 ⟨A8, c8, rfl, hown8, hb8⟩; rw [Hfl2.out] at hown8 ⊢; have Own8 := Lib.hid hown8; have Own38 := Lib.hid (own_below Own7.out hb8); have Hq8 := Lib.hid (Hq7.out.trans (hb8.mono Hq7.out.size)); have Hw8 := Lib.hid (Hw7.out.trans (hb8.mono Hw7.out.size)); have Hb8 := Lib.hid (Hb7.out.trans (hb8.mono Hb7.out.size)); clear hb8 hown8)
        | (go_at_call 14; go_loud (refine (Same_any A3 A8 n3 n3 c3 c8 (formM m) (formM m) w8 Hlen.out Hlen.out (Seen.of_own Own38.out) (Seen.of_own Own8.out) (by omega)).mono ?_; rw [decide_eq_true rfl]; rintro e w9 ⟨rfl, hb9⟩; have Hq9 := Lib.hid (Hq8.out.trans (hb9.mono Hq8.out.size)); have Hw9 := Lib.hid (Hw8.out.trans (hb9.mono Hw8.out.size)); have Hb9 := Lib.hid (Hb8.out.trans (hb9.mono Hb8.out.size)); have hl9 := Hld.out w9 Hw9.out; have hl59 := Hld6.out w9 Hq9.out; clear hb9))
        | (go_at_call 16; refine (RSame7_any m m N5 B5 L5 N B L nn5 nc5 bn5 bc5 ln5 lc5 nn nc bn bc ln lc w9 (Hm6.out.below Hq9.out) (H.out.below Hb9.out)).mono ?_; rw [sameM_self]; rintro e w10 ⟨rfl, hb10⟩; have Hb10 := Lib.hid (Hb9.out.trans (hb10.mono Hb9.out.size)); clear hb10)
        | (go_at_call 9; refine (awake_any _).mono ?_; rintro e w11 ⟨rfl, hb11⟩))
      go_ret
      exact ⟨rfl, Hb10.out.trans (hb11.mono Hb10.out.size)⟩

/-! ### THE ROW -/
theorem own : ownKnob Try.prog.godebug = none := by kernel_rfl

set_option maxRecDepth 100000 in
theorem lifted (os : Os) (started : os.Started) (H : Type) (enc : TypeId × Value → H) :
    ReturnsInHanded {} Try.checked os 3 .any (Rows.framesFormsSpec.pre6 enc Try.prog Try.f3 Rows.framesFormsRow.domain false) (Rows.framesFormsSpec.post enc Try.prog Try.f3 false true false false) := by
  refine returnsInHanded_of_change (C := Try.checked) own started (by kernel_rfl) Try.func3
    (ChangeSpec.witness6 (enc := enc) (C := Try.checked) false ⟨#[], #[.agg #[.int .i64 0, .slice none 0 0, .slice none 0 0, .slice none 0 0]], []⟩ 8 (by kernel_rfl) (by kernel_rfl) (by kernel_rfl) (by kernel_rfl)) ?_
  intro W base args ds gs before hval0 hW hcnd _
  have hval : ∀ (j : Nat) t v, Try.f3.params[j]? = some t → args[j]? = some v → Value.okWide Try.prog W .any base t v := hval0
  have hW' := hW
  obtain ⟨p, q, hA0, hV, rfl, hfz, hnd⟩ := hW
  have hA : DataW.TrodAll enc Try.prog W 0 (fun _ => true) true Try.f3.params.toList args.toList ds p := hA0
  rw [Try.params3] at hA hval
  obtain ⟨v0, vs0, d0, ds0, p0, q0, hargs, rfl, rfl, h0, r0⟩ := trodAll_cons hA
  obtain ⟨rfl, rfl, rfl⟩ := trodAll_nil r0
  obtain rfl : args = #[v0] := by cases args; simp_all
  obtain ⟨rfl, rfl⟩ := trodVars_none hV
  obtain ⟨m0, N0, nn0, nc0, B0, bn0, bc0, L0, ln0, lc0, rfl, hm0⟩ := open_msg Try.underlying26 rfl rfl rfl rfl rfl rfl rfl rfl rfl rfl rfl Try.underlying3 Try.underlying22 Try.underlying3 (by kernel_rfl) Try.underlying23 Try.underlying5 (by kernel_rfl) Try.underlying24 (by kernel_rfl) (by kernel_rfl) (by kernel_rfl) (by kernel_rfl) (by kernel_rfl) (hval 0 26 v0 rfl rfl) h0
  refine (walk m0 N0 B0 L0 nn0 nc0 bn0 bc0 ln0 lc0 W hm0).mono fun e W' ⟨he, hg⟩ => ?_
  subst he
  exact ⟨_, rfl, law_post hW' rfl (by kernel_rfl) (by kernel_rfl) (by kernel_rfl) Try.underlying4 rfl rfl rfl hg⟩

theorem over : Rows.framesFormsRow.holds Try.pinned (OpenSpec.ofChange Rows.framesFormsSpec) :=
  OpenClaim.holds_of_wide 3 Try.f3 rfl rfl rfl rfl rfl rfl rfl ⟨rfl, rfl, rfl, rfl, rfl⟩ rfl rfl rfl rfl rfl (by kernel_rfl) Try.func3 (by kernel_rfl)
    (of_decide_eq_true (by kernel_rfl)) (by unfold Func.isWrapper; first | (rw [if_pos (by decide +kernel)]; kernel_rfl) | (rw [if_neg (by decide +kernel)]; exact ⟨rfl, rfl⟩))
    (fun os started H enc _ => lifted os started H enc)

theorem proved : Rows.FramesFormsSaid :=
  over
#print axioms proved

end Go.Proofs.Ytmlmkfooiikcgaa.framesForms
