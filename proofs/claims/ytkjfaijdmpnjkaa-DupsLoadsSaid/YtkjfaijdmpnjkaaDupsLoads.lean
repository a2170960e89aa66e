/-
  DupsLoads: any bytes (up to 100) are refused, or are just those of a table; it holds for every input, and the argument stays as it was. No condition.
-/
import Derived.Test.YtkjfaijdmpnjkaaDupAwk
import Derived.Test.YtkjfaijdmpnjkaaLaw
import Derived.Test.YtkjfaijdmpnjkaaRows
import Derived.Test.YtkjfaijdmpnjkaaChecked
namespace Go.Proofs.Ytkjfaijdmpnjkaa.DupsLoads
open Go.ChangeShapes Go.WideShapes Go.ChangeAt Go.RowKit Go.Maps Go.Shelf Go.Sort
set_option linter.unusedVariables false

theorem tab_box {w wr : World} {m : Option Nat} {x : List Lst} (hm : MapT wr m x) (hx : TabOk x) (hb : Below w.heap.size w wr) : TabIn w (wr.alloc (.cells #[.map m] 26)) wr.heap.size x :=
  ⟨hb.trans ((below_alloc _ _).mono hb.size), ⟨m, heap_alloc_new _ _, hm.below (below_alloc _ _)⟩, hx, hb.size⟩

set_option maxRecDepth 100000 in
set_option maxHeartbeats 4000000 in
theorem walk (A : Option Addr) (n c : Nat) (bs : List UInt8) (w : World) (hn : bs.length = n) (hnc : n ≤ c) (hcm : c ≤ maxLen) (hs : Seen w A (bytesV bs)) :
    Calls Try.prog 4 #[.slice A n c] w fun e w' => e = .returned (.bool true) ∧ Below w.heap.size w w' := by
  have Hn := Lib.hid hn; have Hs := Lib.hid hs
  clear hn hs
  by_cases h1 : (n : Int) > 100
  · go_enter Try.func4, Try.ntmps4
    go_wp2_with (go_at_call 6; refine (awake_any _).mono ?_; rintro e w1 ⟨rfl, hb1⟩; have Hb1 := Lib.hid hb1; clear hb1)
    go_ret
    exact ⟨rfl, Hb1.out⟩
  · have KL := Lib.hid (Load_any A n c bs w Hn.out (by omega) Hs.out)
    cases hld : loadL bs with
    | none =>
      have Hld := Lib.hid hld
      clear hld
      go_enter Try.func4, Try.ntmps4
      go_wp2_with (first
        | (go_at_call 9; refine KL.out.mono ?_; rintro e w1 h1; unfold LoadRet at h1; rw [Hld.out] at h1; obtain ⟨rfl, hb1⟩ := h1; have T1 := Lib.hid (tab_box (.inl ⟨rfl, rfl⟩) TabOk.nil hb1); have Hb1 := Lib.hid hb1; clear hb1)
        | (go_at_call 13; obtain ⟨m2, hm2⟩ := T1.out.tab; refine (Clients_any _ m2 [] _ hm2 Rise.nil (by simp)).mono ?_; rintro e w2 ⟨A2, c2, rfl, -, hb2⟩; have Hb2 := Lib.hid (T1.out.below.trans (hb2.mono T1.out.below.size)); clear hb2 hm2)
        | (go_at_call 6; refine (awake_any _).mono ?_; rintro e w3 ⟨rfl, hb3⟩; have Hb3 := Lib.hid (Hb2.out.trans (hb3.mono Hb2.out.size)); clear hb3))
      go_ret
      exact ⟨rfl, Hb3.out⟩
    | some x =>
      have Hld := Lib.hid hld
      have Hbk := Lib.hid (loadL_back hld)
      have hbl : (bytesL x).length = n := by rw [Hbk.out.2]; exact Hn.out
      have Hbl := Lib.hid hbl
      clear hld hbl
      go_enter Try.func4, Try.ntmps4
      go_wp2_with (first
        | (go_at_call 9; refine KL.out.mono ?_; rintro e w1 h1; unfold LoadRet at h1; rw [Hld.out] at h1; obtain ⟨⟨m, rfl, hm1⟩, hb1⟩ := h1; have T1 := Lib.hid (tab_box hm1 Hbk.out.1 hb1); clear hb1 hm1)
        | (go_at_call 10; obtain ⟨m2, hm2⟩ := T1.out.tab; refine (Bytes_any _ m2 x _ hm2 Hbk.out.1).mono ?_; rintro e w2 ⟨A2, c2, rfl, ho2, hb2⟩; rw [bytes_length, Hbl.out] at ho2 ⊢; have Hb2 := Lib.hid (T1.out.below.trans (hb2.mono T1.out.below.size)); have Ho2 := Lib.hid ho2; clear hb2 ho2 hm2)
        | (go_at_call 14; refine (Same_any A2 A n n c2 c (bytesL x) bs _ Hbl.out Hn.out (.of_own Ho2.out) (Hs.out.below Hb2.out) (by omega)).mono ?_; rw [decide_eq_true Hbk.out.2]; rintro e w3 ⟨rfl, hb3⟩; have Hb3 := Lib.hid (Hb2.out.trans (hb3.mono Hb2.out.size)); clear hb3)
        | (go_at_call 6; refine (awake_any _).mono ?_; rintro e w4 ⟨rfl, hb4⟩; have Hb4 := Lib.hid (Hb3.out.trans (hb4.mono Hb3.out.size)); clear hb4))
      go_ret
      exact ⟨rfl, Hb4.out⟩

/-! ### THE ROW -/
theorem own : ownKnob Try.prog.godebug = none := by kernel_rfl

set_option maxRecDepth 100000 in
theorem lifted (os : Os) (started : os.Started) (H : Type) (enc : TypeId × Value → H) :
    ReturnsInHanded {} Try.checked os 4 .any (Rows.dupsLoadsSpec.pre6 enc Try.prog Try.f4 Rows.dupsLoadsRow.domain false) (Rows.dupsLoadsSpec.post enc Try.prog Try.f4 false true false false) := by
  refine returnsInHanded_of_change (C := Try.checked) own started (by kernel_rfl) Try.func4
    (ChangeSpec.witness6 (enc := enc) (C := Try.checked) false ⟨#[], #[.slice none 0 0], []⟩ 8 (by kernel_rfl) (by kernel_rfl) (by kernel_rfl) (by kernel_rfl)) ?_
  intro W base args ds gs before hval0 hW hcnd _
  have hval : ∀ (j : Nat) t v, Try.f4.params[j]? = some t → args[j]? = some v → Value.okWide Try.prog W .any base t v := hval0
  have hW' := hW
  obtain ⟨p, q, hA0, hV, rfl, hfz, hnd⟩ := hW
  have hA : DataW.TrodAll enc Try.prog W 0 (fun _ => true) true Try.f4.params.toList args.toList ds p := hA0
  rw [Try.params4] at hA hval
  obtain ⟨v0, vs0, d0, ds0, p0, q0, hargs, rfl, rfl, h0, r0⟩ := trodAll_cons hA
  obtain ⟨rfl, rfl, rfl⟩ := trodAll_nil r0
  obtain rfl : args = #[v0] := by cases args; simp_all
  obtain ⟨rfl, rfl⟩ := trodVars_none hV
  obtain ⟨A0, n0, c0, bs0, rfl, hn0, hnc0, hcm0, hsee0⟩ := open_bytes Try.underlying36 Try.underlying5 (by kernel_rfl) (hval 0 36 v0 rfl rfl) h0
  refine (walk A0 n0 c0 bs0 W hn0 hnc0 hcm0 hsee0).mono fun e W' ⟨he, hg⟩ => ?_
  subst he
  exact ⟨_, rfl, law_post hW' rfl (by kernel_rfl) (by kernel_rfl) (by kernel_rfl) Try.underlying4 rfl rfl rfl hg⟩

theorem over : Rows.dupsLoadsRow.holds Try.pinned (OpenSpec.ofChange Rows.dupsLoadsSpec) :=
  OpenClaim.holds_of_wide 4 Try.f4 rfl rfl rfl rfl rfl rfl rfl ⟨rfl, rfl, rfl, rfl, rfl⟩ rfl rfl rfl rfl rfl (by kernel_rfl) Try.func4 (by kernel_rfl)
    (of_decide_eq_true (by kernel_rfl)) (by unfold Func.isWrapper; first | (rw [if_pos (by decide +kernel)]; kernel_rfl) | (rw [if_neg (by decide +kernel)]; exact ⟨rfl, rfl⟩))
    (fun os started H enc _ => lifted os started H enc)

theorem proved : Rows.DupsLoadsSaid :=
  over
#print axioms proved

end Go.Proofs.Ytkjfaijdmpnjkaa.DupsLoads
