/- For any bytes b, PackOne returns true: a number that is read to its end has just the bytes from which it was read; bytes longer than 20, and bytes that are refused, ask the document's example alone. Conditions: none. -/
import Derived.Test.YteiakgnnlgjfnaaRows
import Derived.Test.YteiakgnnlgjfnaaLaw
import Derived.Test.YteiakgnnlgjfnaaPackA
namespace Go.Proofs.Yteiakgnnlgjfnaa.packOne
open Go.ChangeShapes Go.WideShapes Go.ChangeAt Go.RowKit
set_option linter.unusedVariables false

theorem walk_long (A : Option Addr) (n c : Nat) (w : World) (h : 20 < n) (hm : n ≤ maxLen) :
    Calls Try.prog 5 #[.slice A n c] w fun e w' => e = .returned (.bool true) ∧ Below w.heap.size w w' := by
  unfold maxLen at hm
  go_enter Try.func5, Try.ntmps5
  go_wp2_with (go_at_call 7; refine (awake_any _).mono ?_; rintro e w' ⟨rfl, hb⟩)
  go_ret
  exact ⟨rfl, hb⟩

/-- what is read to its end -/
theorem one_end {bs : List UInt8} {a : Nat} {l : List UInt8} {e1 : Nat} (h : rdNum bs 0 9223372036854775807 = (a, l, e1)) (h0 : endOf l e1 = 0) : numB a = bs ∧ a < 9223372036854775808 := by
  unfold rdNum at h
  obtain ⟨a', s, er, hr⟩ : ∃ a s er, numR bs = (a, s, er) := ⟨_, _, _, rfl⟩
  rw [hr, if_neg (by omega)] at h
  unfold endOf at h0
  split at h
  · rename_i her
    simp only [Prod.mk.injEq] at h her
    obtain ⟨_, _, rfl⟩ := h
    split at h0 <;> omega
  · split at h
    · simp only [Prod.mk.injEq] at h
      obtain ⟨_, _, rfl⟩ := h
      split at h0 <;> omega
    · rename_i her _
      simp only [Prod.mk.injEq] at h
      obtain ⟨rfl, rfl, rfl⟩ := h
      simp only [ne_eq, Decidable.not_not] at her
      subst her
      have ok := numR_ok hr
      have hl : (bs.drop s).length = 0 := by
        rcases Nat.eq_zero_or_pos (bs.drop s).length with h | h
        · exact h
        · rw [if_pos ⟨rfl, h⟩] at h0
          omega
      rw [List.length_drop] at hl
      refine ⟨?_, ok.2.2.2.1⟩
      rw [← ok.2.2.2.2, List.take_of_length_le (by omega)]

set_option maxRecDepth 100000 in
theorem walk_main (A : Option Addr) (n c : Nat) (bs : List UInt8) (w : World) (hn : bs.length = n) (h20 : n ≤ 20) (h : Seen w A (bytesV bs)) :
    Calls Try.prog 5 #[.slice A n c] w fun e w' => e = .returned (.bool true) ∧ Below w.heap.size w w' := by
  have Hh := Lib.hid h; clear h
  have Hn := Lib.hid hn; clear hn
  obtain ⟨B, hB⟩ : ∃ B, w.heap.size = B := ⟨_, rfl⟩
  have HB := Lib.hid hB; clear hB
  obtain ⟨a, l, e1, hrd⟩ : ∃ a l e1, rdNum bs 0 9223372036854775807 = (a, l, e1) := ⟨_, _, _, rfl⟩
  have hone := @one_end bs a l e1 hrd
  have Hrd := Lib.hid hrd; clear hrd
  have Hone := Lib.hid hone; clear hone
  go_enter Try.func5, Try.ntmps5
  go_wp2_with fail
  refine (Read_any A n c bs _ Hn.out (by omega) Hh.out).mono ?_
  rintro e w1 ⟨gr, rfl, hgr, hr1, hb1⟩
  have Hb1 := Lib.hid (hb1.mono (show B ≤ w.heap.size from Nat.le_of_eq HB.out.symm))
  have Hs1 := Lib.hid (Hh.out.below hb1)
  have Hr1 := Lib.hid hr1
  have Hgr : B ≤ gr := by have := HB.out; omega
  clear hr1 hb1 hgr
  go_wp2_with fail
  refine (RNum_any gr 0 bs 9223372036854775807 _ Hr1.out (by omega) (by omega)).mono ?_
  rw [Hrd.out]
  rintro e w2 ⟨rfl, hr2, ht2⟩
  have Hb2 := Lib.hid (Hb1.out.trans (ht2.below (B := B) (fun k e => by subst e; exact Hgr) (by have := Hb1.out.size; have := HB.out; omega)))
  have Hr2 := Lib.hid hr2
  clear hr2 ht2
  have hB2 : B ≤ w2.heap.size := by have := Hb2.out.size; have := HB.out; omega
  go_wp2_with fail
  refine (End_any gr e1 l _ Hr2.out).mono ?_
  rintro e w3 ⟨rfl, rfl⟩
  by_cases h0 : endOf l e1 = 0
  · obtain ⟨hna, ha63⟩ := Hone.out h0
    rw [h0]
    have Hna := Lib.hid hna; clear hna
    have z0 := Lib.hid (IsW.zero w2 B hB2)
    have Hs2 := Lib.hid (Hh.out.below (Hb2.out.mono (Nat.le_of_eq HB.out)))
    have hb3 := Lib.hid (Hb2.out.alloc hB2 (.cells #[.slice none 0 0] 26))
    go_wp2_with fail
    refine (WNum_any B w2.heap.size none [] a _ z0.out (by simp) (by omega) (by omega)).mono ?_
    rintro e w4 ⟨rfl, hg4⟩
    have Hb4 := Lib.hid (hb3.out.trans (GrewW.below z0.out hg4))
    obtain ⟨r4, hw4, _, _⟩ := hg4
    rw [List.nil_append, show ((a : Int)).toNat = a by omega, Hna.out] at hw4
    have Hw4 := Lib.hid hw4
    clear hw4
    go_wp2_with fail
    refine (WBytes_any B _ r4 bs _ Hw4.out (by have := Hn.out; omega)).mono ?_
    rintro e w5 ⟨A5, c5, rfl, hown5, hb5⟩
    have Hb5 := Lib.hid (Hb4.out.trans (hb5.mono (by have := Hb4.out.size; have := HB.out; omega)))
    rw [bytes_length, Hn.out] at hown5 ⊢
    have Hown5 := Lib.hid hown5
    clear hown5 hb5
    go_wp2_with fail
    refine (Same_any A5 A n n c5 c bs bs _ Hn.out Hn.out (Seen.of_own Hown5.out) (Hh.out.below (Hb5.out.mono (Nat.le_of_eq HB.out))) (by omega)).mono ?_
    rintro e w6 ⟨rfl, hb6⟩
    rw [show decide (bs = bs) = true from decide_eq_true rfl]
    have Hb6 := Lib.hid (Hb5.out.trans (hb6.mono (by have := Hb5.out.size; have := HB.out; omega)))
    clear hb6
    go_wp2_with fail
    refine (awake_any _).mono ?_
    rintro e w7 ⟨rfl, hb7⟩
    have Hb7 := Lib.hid (Hb6.out.trans (hb7.mono (by have := Hb6.out.size; have := HB.out; omega)))
    clear hb7
    go_wp2
    go_ret
    rw [HB.out]
    exact ⟨rfl, Hb7.out⟩
  · have hd : ((endOf l e1 : Int) != 0) = true := by simp; omega
    go_wp2_with fail
    refine (awake_any _).mono ?_
    rintro e w7 ⟨rfl, hb7⟩
    have Hb7 := Lib.hid (Hb2.out.trans (hb7.mono hB2))
    clear hb7
    go_wp2
    go_ret
    rw [HB.out]
    exact ⟨rfl, Hb7.out⟩

theorem walk (A : Option Addr) (n c : Nat) (bs : List UInt8) (w : World) (hn : bs.length = n) (hnc : n ≤ c) (hcm : c ≤ maxLen) (h : Seen w A (bytesV bs)) :
    Calls Try.prog 5 #[.slice A n c] w fun e w' => e = .returned (.bool true) ∧ Below w.heap.size w w' := by
  by_cases h20 : 20 < n
  · exact walk_long A n c w h20 (by omega)
  · exact walk_main A n c bs w hn (by omega) h

/-! ### THE ROW -/
theorem own : ownKnob Try.prog.godebug = none := by kernel_rfl

set_option maxRecDepth 100000 in
theorem lifted (os : Os) (started : os.Started) (H : Type) (enc : TypeId × Value → H) :
    ReturnsInHanded {} Try.checked os 5 .any (Rows.packOneSpec.pre6 enc Try.prog Try.f5 Rows.packOneRow.domain false) (Rows.packOneSpec.post enc Try.prog Try.f5 false true false false) := by
  refine returnsInHanded_of_change (C := Try.checked) own started (by kernel_rfl) Try.func5
    (ChangeSpec.witness6 (enc := enc) (C := Try.checked) false ⟨#[], #[.slice none 0 0], []⟩ 8 (by kernel_rfl) (by kernel_rfl) (by kernel_rfl) (by kernel_rfl)) ?_
  intro W base args ds gs before hval0 hW hcnd _
  have hval : ∀ (j : Nat) t v, Try.f5.params[j]? = some t → args[j]? = some v → Value.okWide Try.prog W .any base t v := hval0
  have hW' := hW
  obtain ⟨p, q, hA0, hV, rfl, hfz, hnd⟩ := hW
  have hA : DataW.TrodAll enc Try.prog W 0 (fun _ => true) true Try.f5.params.toList args.toList ds p := hA0
  rw [Try.params5] at hA hval
  obtain ⟨v0, vs0, d0, ds0, p0, q0, hargs, rfl, rfl, h0, r0⟩ := trodAll_cons hA
  obtain ⟨rfl, rfl, rfl⟩ := trodAll_nil r0
  obtain rfl : args = #[v0] := by cases args; simp_all
  obtain ⟨rfl, rfl⟩ := trodVars_none hV
  obtain ⟨A0, n0, c0, bs0, rfl, hn0, hnc0, hcm0, hsee0⟩ := open_bytes Try.underlying24 Try.underlying5 (by kernel_rfl) (hval 0 24 v0 rfl rfl) h0
  refine (walk A0 n0 c0 bs0 W hn0 hnc0 hcm0 hsee0).mono fun e W' ⟨he, hg⟩ => ?_
  subst he
  exact ⟨_, rfl, law_post hW' rfl (by kernel_rfl) (by kernel_rfl) (by kernel_rfl) Try.underlying4 rfl rfl rfl hg⟩

theorem over : Rows.packOneRow.holds Try.pinned (OpenSpec.ofChange Rows.packOneSpec) :=
  OpenClaim.holds_of_wide 5 Try.f5 rfl rfl rfl rfl rfl rfl rfl ⟨rfl, rfl, rfl, rfl, rfl⟩ rfl rfl rfl rfl rfl (by kernel_rfl) Try.func5 (by kernel_rfl)
    (of_decide_eq_true (by kernel_rfl)) (by unfold Func.isWrapper; first | (rw [if_pos (by decide +kernel)]; kernel_rfl) | (rw [if_neg (by decide +kernel)]; exact ⟨rfl, rfl⟩))
    (fun os started H enc _ => lifted os started H enc)

theorem proved : Rows.PackOneSaid :=
  over
#print axioms proved

end Go.Proofs.Yteiakgnnlgjfnaa.packOne
