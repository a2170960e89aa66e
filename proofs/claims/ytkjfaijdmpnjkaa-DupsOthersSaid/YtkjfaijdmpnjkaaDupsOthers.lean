/-
  DupsOthers: what one client did (up to 60 numbers) changes nothing of another one's; it holds for every input, and the argument stays as it was. No condition.
-/
import Derived.Test.YtkjfaijdmpnjkaaDupAwk
import Derived.Test.YtkjfaijdmpnjkaaLaw
import Derived.Test.YtkjfaijdmpnjkaaRows
import Derived.Test.YtkjfaijdmpnjkaaChecked
namespace Go.Proofs.Ytkjfaijdmpnjkaa.DupsOthers
open Go.ChangeShapes Go.WideShapes Go.ChangeAt Go.RowKit Go.Maps Go.Shelf Go.Sort
set_option linter.unusedVariables false

/-- a's operation 50, and b's last one m, if there is one -/
def two (a b m : Int) : List Lst := if m = 0 then [(a, 50, 5)] else if a < b then [(a, 50, 5), (b, m, 0)] else [(b, m, 0), (a, 50, 5)]
theorem two_at {a b m : Int} (h : a ≠ b) : atL (two a b m) a = some (a, 50, 5) := by
  unfold two atL
  have h1 : (b == a) = false := by simp; omega
  split
  · simp
  · split
    · simp
    · simp [h1]
theorem two_b0 {a b : Int} (h : a ≠ b) : atL (two a b 0) b = none := by
  unfold two atL
  have h1 : (a == b) = false := by simp; omega
  rw [if_pos rfl]
  simp [h1]
theorem two_b {a b m : Int} (h : a ≠ b) (hm : m ≠ 0) : atL (two a b m) b = some (b, m, 0) := by
  unfold two atL
  have h1 : (a == b) = false := by simp; omega
  rw [if_neg hm]
  split
  · simp [h1]
  · simp
theorem two_len {a b m : Int} : (two a b m).length = if m = 0 then 1 else 2 := by
  unfold two
  split
  · rfl
  · split <;> rfl
theorem two_50 {a b m : Int} (h : a ≠ b) : chkL (two a b m) a 50 = (1, 5) := by unfold chkL; rw [two_at h]; rfl
theorem two_49 {a b m : Int} (h : a ≠ b) : chkL (two a b m) a 49 = (2, 0) := by unfold chkL; rw [two_at h]; rfl
theorem two_51 {a b m : Int} (h : a ≠ b) : chkL (two a b m) a 51 = (0, 0) := by unfold chkL; rw [two_at h]; rfl
theorem two_putL {a b m n : Int} (h : a ≠ b) (hn : n ≠ 0) : putL (two a b m) b n 0 = two a b n := by
  unfold two putL
  rw [if_neg hn]
  have e1 : ¬ b < b := by omega
  by_cases hm : m = 0
  · rw [if_pos hm]
    by_cases hab : a < b
    · have h2 : ¬ b < a := by omega
      simp [hab, h2]
    · have h2 : b < a := by omega
      simp [hab, h2]
  · rw [if_neg hm]
    by_cases hab : a < b
    · have h2 : ¬ b < a := by omega
      simp [hab, h2]
    · have h2 : b < a := by omega
      simp [hab, h2]
theorem two_put {a b m n : Int} (h : a ≠ b) (hb : 0 ≤ b ∧ b ≤ 255) (hn : 1 ≤ n ∧ n ≤ 256) (hm : 0 ≤ m) : putA (two a b m) b n 0 = if m < n then 0 else 13 := by
  have hr : rightL b n 0 = true := rightL_iff.2 ⟨hb, by omega, by omega⟩
  unfold putA
  rw [hr]
  simp only [Bool.true_eq_false, if_false]
  by_cases h0 : m = 0
  · subst h0
    rw [two_b0 h]
    simp only
    rw [two_len, if_pos rfl, if_neg (by omega), if_pos (by omega)]
  · rw [two_b h h0]
    simp only
    by_cases hlt : m < n
    · rw [if_pos hlt, if_neg (by omega)]
    · rw [if_neg hlt, if_pos (by omega)]
theorem two_yes {a b m n : Int} (h : a ≠ b) (hb : 0 ≤ b ∧ b ≤ 255) (hn : 1 ≤ n ∧ n ≤ 256) (hm : 0 ≤ m) (hlt : m < n) : putA (two a b m) b n 0 = 0 ∧ putX (two a b m) b n 0 = two a b n := by
  have h0 : putA (two a b m) b n 0 = 0 := by rw [two_put h hb hn hm, if_pos hlt]
  exact ⟨h0, by unfold putX; rw [if_pos h0]; exact two_putL h (by omega)⟩
theorem two_no {a b m n : Int} (h : a ≠ b) (hb : 0 ≤ b ∧ b ≤ 255) (hn : 1 ≤ n ∧ n ≤ 256) (hm : 0 ≤ m) (hlt : ¬ m < n) : putA (two a b m) b n 0 = 13 ∧ putX (two a b m) b n 0 = two a b m := by
  have h0 : putA (two a b m) b n 0 = 13 := by rw [two_put h hb hn hm, if_neg hlt]
  exact ⟨h0, by unfold putX; rw [h0, if_neg (by decide)]⟩
theorem two_first {a : Int} (b : Int) (ha : 0 ≤ a ∧ a ≤ 255) : putA [] a 50 5 = 0 ∧ putX [] a 50 5 = two a b 0 := by
  have hr : rightL a 50 5 = true := rightL_iff.2 ⟨ha, by omega, by omega⟩
  have h0 : putA [] a 50 5 = 0 := by unfold putA; rw [hr]; rfl
  exact ⟨h0, by unfold putX two; rw [if_pos h0, if_pos rfl]; rfl⟩

set_option maxRecDepth 100000 in
set_option maxHeartbeats 8000000 in
theorem walk (A : Option Addr) (n c : Nat) (bs : List UInt8) (a b : Int) (w : World) (hn : bs.length = n) (hnc : n ≤ c) (hcm : c ≤ maxLen) (hs : Seen w A (bytesV bs)) (ha : (Lit.int .u8 a).wf = true) (hb : (Lit.int .u8 b).wf = true) :
    Calls Try.prog 5 #[.slice A n c, .int .u8 a, .int .u8 b] w fun e w' => e = .returned (.bool true) ∧ Below w.heap.size w w' := by
  have Hn := Lib.hid hn; have Hs := Lib.hid hs
  obtain ⟨a0, a1⟩ := bounds_u8 ha
  obtain ⟨b0, b1⟩ := bounds_u8 hb
  clear hn hs ha hb
  by_cases h1 : (n : Int) > 60
  · go_enter Try.func5, Try.ntmps5
    go_wp2_with (go_at_call 6; refine (awake_any _).mono ?_; rintro e w1 ⟨rfl, hb1⟩; have Hb1 := Lib.hid hb1; clear hb1)
    go_ret
    exact ⟨rfl, Hb1.out⟩
  by_cases h2 : a = b
  · have q2 : (a == b) = true := by simpa using h2
    clear h2
    go_enter Try.func5, Try.ntmps5
    go_wp2_with (go_at_call 6; refine (awake_any _).mono ?_; rintro e w1 ⟨rfl, hb1⟩; have Hb1 := Lib.hid hb1; clear hb1)
    go_ret
    exact ⟨rfl, Hb1.out⟩
  have q2 : (a == b) = false := by simpa using h2
  have Hab := Lib.hid h2
  have HF := Lib.hid (two_first b ⟨a0, a1⟩)
  have H50 := Lib.hid (fun m => two_50 (a := a) (b := b) (m := m) h2); have H49 := Lib.hid (fun m => two_49 (a := a) (b := b) (m := m) h2); have H51 := Lib.hid (fun m => two_51 (a := a) (b := b) (m := m) h2)
  clear h2
  obtain ⟨W1, hW1⟩ : ∃ W1, w.alloc (.cells #[.map none] 26) = W1 := ⟨_, rfl⟩
  have T1 := Lib.hid (show TabIn w W1 w.heap.size [] by rw [← hW1]; exact TabIn.start w)
  go_enter Try.func5, Try.ntmps5
  go_wp2_with (go_at_call 8; refine (T1.out.put a 50 5 (by omega) (by omega)).mono ?_; rintro e w2 ⟨rfl, t2, -⟩; rw [HF.out.2] at t2; rw [HF.out.1]; have T2 := Lib.hid t2; clear t2)
  clear hW1
  go_loopw [8, 9] (fun mv iv wr => ∃ (i m : Nat), mv = .int .i64 (m : Int) ∧ iv = .int .i64 (i : Int) ∧ i ≤ n ∧ m ≤ 256 ∧ (m = 0 ↔ i = 0) ∧ TabIn w wr w.heap.size (two a b m)) (fun _ iv _ => n - (intOf iv).toNat)
  case atStart => exact ⟨0, 0, rfl, rfl, by omega, by omega, Iff.rfl, T2.out⟩
  case round =>
    obtain ⟨i, m, rfl, rfl, hin, hm, him, hT⟩ := hrel
    have HT := Lib.hid hT; have Him := Lib.hid him
    clear hT him
    by_cases hi : i < n
    · obtain ⟨g, o, x, rfl, hx, -, hc⟩ := (Hs.out.below HT.out.below).byteAt (j := i) (by rw [Hn.out]; exact hi)
      obtain ⟨v, hv⟩ : ∃ v, x.toNat = v := ⟨_, rfl⟩
      have hv8 : v < 256 := by rw [← hv]; exact x.toNat_lt
      rw [hv] at hc
      have i0 : (0 : Int) ≤ (i : Int) := by omega
      have i1 : (i : Int) < (n : Int) := by omega
      clear hv hx
      by_cases hlt : m < v + 1
      · have HP := Lib.hid (two_yes (n := 1 + (v : Int)) Hab.out ⟨b0, b1⟩ (by omega) (m := (m : Int)) (by omega) (by omega))
        have k1 : 1 + (v : Int) > (m : Int) := by omega
        go_wp2_with (first
          | (go_at_call 8; refine (HT.out.put b (1 + (v : Int)) 0 (by omega) (by omega)).mono ?_; rintro e w3 ⟨rfl, t3, -⟩; rw [HP.out.2] at t3; rw [HP.out.1]; have T3 := Lib.hid t3; clear t3)
          | (go_at_call_of 11 (Value.int .i64 50); refine (T3.out.check a 50 (by omega) (by omega)).mono ?_; rintro e w4 ⟨rfl, t4, -⟩; rw [H50.out]; have T4 := Lib.hid t4; clear t4)
          | (go_at_call_of 11 (Value.int .i64 49); refine (T4.out.check a 49 (by omega) (by omega)).mono ?_; rintro e w5 ⟨rfl, t5, -⟩; rw [H49.out]; have T5 := Lib.hid t5; clear t5)
          | (go_at_call_of 11 (Value.int .i64 51); refine (T5.out.check a 51 (by omega) (by omega)).mono ?_; rintro e w6 ⟨rfl, t6, -⟩; rw [H51.out]; have T6 := Lib.hid t6; clear t6))
        go_roundw
        case rel => exact ⟨i + 1, 1 + v, by go_num, by go_num, by omega, by omega, by omega, by have := T6.out; rwa [show ((1 + v : Nat) : Int) = 1 + (v : Int) by omega]⟩
        case measure => simp [intOf]; omega
      · have HP := Lib.hid (two_no (n := 1 + (v : Int)) Hab.out ⟨b0, b1⟩ (by omega) (m := (m : Int)) (by omega) (by omega))
        have k1 : ¬ 1 + (v : Int) > (m : Int) := by omega
        go_wp2_with (first
          | (go_at_call 8; refine (HT.out.put b (1 + (v : Int)) 0 (by omega) (by omega)).mono ?_; rintro e w3 ⟨rfl, t3, -⟩; rw [HP.out.2] at t3; rw [HP.out.1]; have T3 := Lib.hid t3; clear t3)
          | (go_at_call_of 11 (Value.int .i64 50); refine (T3.out.check a 50 (by omega) (by omega)).mono ?_; rintro e w4 ⟨rfl, t4, -⟩; rw [H50.out]; have T4 := Lib.hid t4; clear t4)
          | (go_at_call_of 11 (Value.int .i64 49); refine (T4.out.check a 49 (by omega) (by omega)).mono ?_; rintro e w5 ⟨rfl, t5, -⟩; rw [H49.out]; have T5 := Lib.hid t5; clear t5)
          | (go_at_call_of 11 (Value.int .i64 51); refine (T5.out.check a 51 (by omega) (by omega)).mono ?_; rintro e w6 ⟨rfl, t6, -⟩; rw [H51.out]; have T6 := Lib.hid t6; clear t6))
        go_roundw
        case rel => exact ⟨i + 1, m, by go_num, by go_num, by omega, by omega, by omega, T6.out⟩
        case measure => simp [intOf]; omega
    · obtain rfl : i = n := by omega
      have i1 : ¬ (i : Int) < (i : Int) := by omega
      obtain ⟨mm, hmm⟩ := HT.out.tab
      have hlen : (keysL (two a b m)).length = if i = 0 then 1 else 2 := by
        rw [keysL_length, two_len]
        have := Him.out
        by_cases h0 : i = 0
        · rw [if_pos h0, if_pos (by omega)]
        · rw [if_neg h0, if_neg (by omega)]
      have Hlen := Lib.hid hlen; have Hmm := Lib.hid hmm
      clear hlen hmm
      have hTl := HT.out.ok
      have HO := Lib.hid hTl
      clear hTl
      by_cases h0 : i = 0
      · have hl1 := Hlen.out.trans (if_pos h0)
        obtain ⟨L, hL⟩ : ∃ L, (keysL (two a b m)).length = L := ⟨_, rfl⟩
        rw [hL] at hl1
        have HL := Lib.hid hL; have Hl1 := Lib.hid hl1
        subst h0
        clear hi hin h1 hnc hl1 hL
        go_wp2_with (first
          | (go_at_call 13; refine (Clients_any _ mm _ _ Hmm.out HO.out.rise (by have := HO.out.len; omega)).mono ?_; rintro e w2 ⟨A2, c2, rfl, -, hb2⟩; rw [HL.out]; have Hb2 := Lib.hid (HT.out.below.trans (hb2.mono HT.out.below.size)); clear hb2)
          | (go_at_call 6; refine (awake_any _).mono ?_; rintro e w3 ⟨rfl, hb3⟩; have Hb3 := Lib.hid (Hb2.out.trans (hb3.mono Hb2.out.size)); clear hb3))
        all_goals first
          | (go_ret; exact ⟨rfl, Hb3.out⟩)
          | (rename_i h9; exact absurd (by have := Hl1.out; omega) h9)
      · have Hl2 := Lib.hid (Hlen.out.trans (if_neg h0))
        clear h0
        by_cases q1 : (1 : Int) < (i : Int)
        · go_wp2_with (first
            | (go_at_call 13; refine (Clients_any _ mm _ _ Hmm.out HO.out.rise (by have := HO.out.len; omega)).mono ?_; rintro e w2 ⟨A2, c2, rfl, -, hb2⟩; rw [Hl2.out]; have Hb2 := Lib.hid (HT.out.below.trans (hb2.mono HT.out.below.size)); clear hb2)
            | (go_at_call 6; refine (awake_any _).mono ?_; rintro e w3 ⟨rfl, hb3⟩; have Hb3 := Lib.hid (Hb2.out.trans (hb3.mono Hb2.out.size)); clear hb3))
          go_ret
          exact ⟨rfl, Hb3.out⟩
        · obtain rfl : i = 1 := by
            have := Hlen.out
            have h2 := Hl2.out
            by_cases h0 : i = 0
            · rw [if_pos h0] at this; omega
            · omega
          clear q1
          have q1 : ¬ (1 : Int) < 1 := by omega
          go_wp2_with (first
            | (go_at_call 13; refine (Clients_any _ mm _ _ Hmm.out HO.out.rise (by have := HO.out.len; omega)).mono ?_; rintro e w2 ⟨A2, c2, rfl, -, hb2⟩; rw [Hl2.out]; have Hb2 := Lib.hid (HT.out.below.trans (hb2.mono HT.out.below.size)); clear hb2)
            | (go_at_call 6; refine (awake_any _).mono ?_; rintro e w3 ⟨rfl, hb3⟩; have Hb3 := Lib.hid (Hb2.out.trans (hb3.mono Hb2.out.size)); clear hb3))
          go_ret
          exact ⟨rfl, Hb3.out⟩

/-! ### THE ROW -/
theorem own : ownKnob Try.prog.godebug = none := by kernel_rfl

set_option maxRecDepth 100000 in
theorem lifted (os : Os) (started : os.Started) (H : Type) (enc : TypeId × Value → H) :
    ReturnsInHanded {} Try.checked os 5 .any (Rows.dupsOthersSpec.pre6 enc Try.prog Try.f5 Rows.dupsOthersRow.domain false) (Rows.dupsOthersSpec.post enc Try.prog Try.f5 false true false false) := by
  refine returnsInHanded_of_change (C := Try.checked) own started (by kernel_rfl) Try.func5
    (ChangeSpec.witness6 (enc := enc) (C := Try.checked) false ⟨#[], #[.slice none 0 0, .int .u8 0, .int .u8 0], []⟩ 8 (by kernel_rfl) (by kernel_rfl) (by kernel_rfl) (by kernel_rfl)) ?_
  intro W base args ds gs before hval0 hW hcnd _
  have hval : ∀ (j : Nat) t v, Try.f5.params[j]? = some t → args[j]? = some v → Value.okWide Try.prog W .any base t v := hval0
  have hW' := hW
  obtain ⟨p, q, hA0, hV, rfl, hfz, hnd⟩ := hW
  have hA : DataW.TrodAll enc Try.prog W 0 (fun _ => true) true Try.f5.params.toList args.toList ds p := hA0
  rw [Try.params5] at hA hval
  obtain ⟨v0, vs0, d0, ds0, p0, q0, hargs, rfl, rfl, h0, r0⟩ := trodAll_cons hA
  obtain ⟨v1, vs1, d1, ds1, p1, q1, rfl, rfl, rfl, h1, r1⟩ := trodAll_cons r0
  obtain ⟨v2, vs2, d2, ds2, p2, q2, rfl, rfl, rfl, h2, r2⟩ := trodAll_cons r1
  obtain ⟨rfl, rfl, rfl⟩ := trodAll_nil r2
  obtain rfl : args = #[v0, v1, v2] := by cases args; simp_all
  obtain ⟨rfl, rfl⟩ := trodVars_none hV
  obtain ⟨A0, n0, c0, bs0, rfl, hn0, hnc0, hcm0, hsee0⟩ := open_bytes Try.underlying36 Try.underlying5 (by kernel_rfl) (hval 0 36 v0 rfl rfl) h0
  obtain ⟨a1, rfl, rfl, rfl, w1⟩ := open_int Try.underlying5 (hval 1 5 v1 rfl rfl) h1
  obtain ⟨a2, rfl, rfl, rfl, w2⟩ := open_int Try.underlying5 (hval 2 5 v2 rfl rfl) h2
  refine (walk A0 n0 c0 bs0 a1 a2 W hn0 hnc0 hcm0 hsee0 w1 w2).mono fun e W' ⟨he, hg⟩ => ?_
  subst he
  exact ⟨_, rfl, law_post hW' rfl (by kernel_rfl) (by kernel_rfl) (by kernel_rfl) Try.underlying4 rfl rfl rfl hg⟩

theorem over : Rows.dupsOthersRow.holds Try.pinned (OpenSpec.ofChange Rows.dupsOthersSpec) :=
  OpenClaim.holds_of_wide 5 Try.f5 rfl rfl rfl rfl rfl rfl rfl ⟨rfl, rfl, rfl, rfl, rfl⟩ rfl rfl rfl rfl rfl (by kernel_rfl) Try.func5 (by kernel_rfl)
    (of_decide_eq_true (by kernel_rfl)) (by unfold Func.isWrapper; first | (rw [if_pos (by decide +kernel)]; kernel_rfl) | (rw [if_neg (by decide +kernel)]; exact ⟨rfl, rfl⟩))
    (fun os started H enc _ => lifted os started H enc)

theorem proved : Rows.DupsOthersSaid :=
  over
#print axioms proved

end Go.Proofs.Ytkjfaijdmpnjkaa.DupsOthers
