/-
  DupsPlays: whatever is put (up to 100 acts), each answer, all that is checked, the clients and the bytes are the document's; it holds for every input, and the argument stays as it was. No condition.
-/
import Derived.Test.YtkjfaijdmpnjkaaDupPly
import Derived.Test.YtkjfaijdmpnjkaaRows
import Derived.Test.YtkjfaijdmpnjkaaChecked
import Derived.Deep.CutBlock
import Derived.Deep.DeepCutAuto
namespace Go.Proofs.Ytkjfaijdmpnjkaa.DupsPlays
open Go.ChangeShapes Go.WideShapes Go.ChangeAt Go.RowKit Go.Maps Go.Shelf Go.Sort
set_option linter.unusedVariables false

/-- behind an act: the table and the list are one again -/
def Behind (w wr : World) (d c n e : Int) (x4 : Value) (wx : World) : Prop :=
  ∃ (x : List Lst) (A : Option Addr) (m cp : Nat), x4 = .slice A m cp ∧ PlayAt w wx x x A m cp ∧ wx.heap[wr.heap.size]? = some (.cells #[.int .i64 d, .int .i64 c, .int .i64 n, .int .i64 e] 29 (0, 0))

set_option maxRecDepth 100000 in
set_option maxHeartbeats 8000000 in
theorem walk (A : Option Addr) (n c : Nat) (l : List Act9) (w : World) (hn : l.length = n) (hnc : n ≤ c) (hcm : c ≤ maxLen) (hs : Acts9At w A l) :
    Calls Try.prog 3 #[.slice A n c] w fun e w' => e = .returned (.bool true) ∧ Below w.heap.size w w' := by
  have Hn := Lib.hid hn; have Hs := Lib.hid hs
  clear hn hs hnc hcm
  by_cases h1 : (n : Int) > 100
  · go_enter Try.func3, Try.ntmps3
    go_wp2_with (go_at_call 6; refine (awake_any _).mono ?_; rintro e w1 ⟨rfl, hb1⟩; have Hb1 := Lib.hid hb1; clear hb1)
    go_ret
    exact ⟨rfl, Hb1.out⟩
  obtain ⟨W1, hW1⟩ : ∃ W1, w.alloc (.cells #[.map none] 26) = W1 := ⟨_, rfl⟩
  have P1 := Lib.hid (show PlayAt w W1 [] [] none 0 0 by rw [← hW1]; exact PlayAt.start w)
  go_enter Try.func3, Try.ntmps3
  go_wp2
  clear hW1
  go_loopw [4, 5] (fun sv iv wr => ∃ (i m cp : Nat) (x : List Lst) (A' : Option Addr), iv = .int .i64 (i : Int) ∧ i ≤ n ∧ sv = .slice A' m cp ∧ PlayAt w wr x x A' m cp) (fun _ iv _ => n - (intOf iv).toNat)
  case atStart => exact ⟨0, 0, 0, [], none, rfl, by omega, rfl, P1.out⟩
  case round =>
    obtain ⟨i, m, cp, x, A', rfl, hin, rfl, hp⟩ := hrel
    by_cases hi : i < n
    · obtain ⟨g, o, ⟨d, ac, an, ae⟩, rfl, ha, q0, q1, q2, q3, -, hic, hia, hie⟩ := Hs.out.get (i := i) (by have := Hn.out; omega)
      have a0 := (hp.tab.below.cell (block_lt_of_cell q0)).trans q0
      have a1 := (hp.tab.below.cell (block_lt_of_cell q1)).trans q1
      have a2 := (hp.tab.below.cell (block_lt_of_cell q2)).trans q2
      have a3 := (hp.tab.below.cell (block_lt_of_cell q3)).trans q3
      simp only at a0 a1 a2 a3 hic hia hie
      obtain ⟨W2, hW2, hb2, hh2⟩ := acts_heap wr d ac an ae
      have b0 : W2.cell? ⟨wr.heap.size, 0, none⟩ = some (.int .i64 d) := row_cell hh2 0
      have b1 : W2.cell? ⟨wr.heap.size, 1, none⟩ = some (.int .i64 ac) := row_cell hh2 1
      have b2 : W2.cell? ⟨wr.heap.size, 2, none⟩ = some (.int .i64 an) := row_cell hh2 2
      have b3 : W2.cell? ⟨wr.heap.size, 3, none⟩ = some (.int .i64 ae) := row_cell hh2 3
      have P2 := Lib.hid (hp.over hb2); have Hh2 := Lib.hid hh2; have Hic := Lib.hid hic
      have Hgt := Lib.hid (show w.heap.size < wr.heap.size by obtain ⟨mm, ht⟩ := hp.tab.tab; exact ht.lt)
      have i0 : (0 : Int) ≤ (i : Int) := by omega
      have i1 : (i : Int) < (n : Int) := by omega
      clear hp hb2 hh2 hic hia hie ha q0 q1 q2 q3
      obtain ⟨bd, hbd⟩ : ∃ b, (d == 0) = b := ⟨_, rfl⟩
      go_upto_if 33 with fail
      clear hbd hW2
      go_cut [4] (fun x4 wx => Behind w wr d ac an ae x4 wx)
      case first =>
        cases bd with
        | true =>
          go_wp2_with (first
            | (go_at_call 7; refine (P2.out.rput ac an ae).mono ?_; rintro e w3 ⟨A3, m3, cp3, rfl, p3, k3⟩; have h3 := (k3.block _ (Array.getElem?_eq_some_iff.1 Hh2.out).1).trans Hh2.out; have c1 : w3.cell? ⟨wr.heap.size, 1, none⟩ = some (.int .i64 ac) := row_cell h3 1; have c2 : w3.cell? ⟨wr.heap.size, 2, none⟩ = some (.int .i64 an) := row_cell h3 2; have c3 : w3.cell? ⟨wr.heap.size, 3, none⟩ = some (.int .i64 ae) := row_cell h3 3; have P3 := Lib.hid p3; have Hh3 := Lib.hid h3; clear p3 k3 h3)
            | (go_at_call 8; refine (P3.out.put ac an ae Hic.out).mono ?_; rintro e w4 ⟨rfl, p4, t4⟩; have h4 := t4.heap Hh3.out (by have := Hgt.out; omega); have P4 := Lib.hid p4; have Hh4 := Lib.hid h4; clear p4 t4 h4 c1 c2 c3))
          go_meet
          exact ⟨_, A3, m3, cp3, rfl, P4.out, Hh4.out⟩
        | false =>
          have Hld := Lib.hid (loadL_self P2.out.tab.ok)
          have Hbl := Lib.hid P2.out.tab.ok.bytes_len
          go_wp2_with (first
            | (go_at_call 10; refine P2.out.bytes.mono ?_; rintro e w3 ⟨A3, c3, rfl, o3, k3⟩; rw [bytes_length] at o3 ⊢; have h3 := (k3.block _ (Array.getElem?_eq_some_iff.1 Hh2.out).1).trans Hh2.out; have P3 := Lib.hid (P2.out.over k3); have Hh3 := Lib.hid h3; have Ho3 := Lib.hid o3; clear o3 k3 h3)
            | (go_at_call 9; refine (Load_any A3 _ c3 (bytesL x) w3 rfl (by have := Hbl.out; omega) (.of_own Ho3.out)).mono ?_; rintro e w4 h4; unfold LoadRet at h4; rw [Hld.out] at h4; obtain ⟨⟨m4, rfl, hm4⟩, k4⟩ := h4; have h4 := (k4.block _ (Array.getElem?_eq_some_iff.1 Hh3.out).1).trans Hh3.out; have P4 := Lib.hid (P3.out.over k4); obtain ⟨W5, hW5, k5, x5⟩ := tab_heap w4 m4; have P5 := Lib.hid (P4.out.over k5); have Hh5 := Lib.hid ((k5.block _ (Array.getElem?_eq_some_iff.1 h4).1).trans h4); have Hm5 := Lib.hid (hm4.below k5); obtain ⟨mm, y5, z5⟩ := P5.out.cell; clear hm4 k4 h4 k5))
          go_meet
          obtain ⟨p6, t6⟩ := P5.out.relaid Hm5.out
          exact ⟨x, A', m, cp, rfl, p6, t6.heap Hh5.out (by have := Hgt.out; omega)⟩
      case rest =>
        obtain ⟨x4, A4, m4, cp4, rfl, p4, h4⟩ := hcut
        have c41 : wc.cell? ⟨wr.heap.size, 1, none⟩ = some (.int .i64 ac) := row_cell h4 1
        have c42 : wc.cell? ⟨wr.heap.size, 2, none⟩ = some (.int .i64 an) := row_cell h4 2
        have P4 := Lib.hid p4; have Hh4 := Lib.hid h4
        have hm32 : m4 ≤ 32 := by have := p4.len; have := p4.tab.ok.len; omega
        have Hbl := Lib.hid p4.tab.ok.bytes_len
        clear p4 h4 a0 a1 a2 a3 b0 b1 b2 b3
        go_wp2_with (first
          | (go_at_call 11; refine (P4.out.check ac an Hic.out).mono ?_; rintro e w5 ⟨rfl, p5, k5⟩; have h5 := (k5.block _ (Array.getElem?_eq_some_iff.1 Hh4.out).1).trans Hh4.out; have c51 : w5.cell? ⟨wr.heap.size, 1, none⟩ = some (.int .i64 ac) := row_cell h5 1; have c52 : w5.cell? ⟨wr.heap.size, 2, none⟩ = some (.int .i64 an) := row_cell h5 2; have P5 := Lib.hid p5; clear p5 k5 h5 c41 c42)
          | (go_at_call 12; refine (P5.out.rcheck ac an).mono ?_; rintro e w6 ⟨rfl, p6, k6⟩; have P6 := Lib.hid p6; clear p6 k6 c51 c52)
          | (go_at_call 13; refine P6.out.clients.mono ?_; rintro e w7 ⟨A7, c7, rfl, o7, k7⟩; rw [keysL_length, P6.out.len] at o7 ⊢; have P7 := Lib.hid (P6.out.over k7); have O7 := Lib.hid o7; clear o7 k7)
          | (go_at_call 10; refine P7.out.bytes.mono ?_; rintro e w8 ⟨A8, c8, rfl, o8, k8⟩; rw [bytes_length] at o8 ⊢; have P8 := Lib.hid (P7.out.over k8); have O8 := Lib.hid o8; have K8 := Lib.hid (own_belowM O7.out k8); clear o8 k8)
          | (go_at_call 15; refine P8.out.rbytes.mono ?_; rintro e w9 ⟨A9, c9, rfl, o9, k9⟩; rw [bytes_length] at o9 ⊢; have P9 := Lib.hid (P8.out.over k9); have O9 := Lib.hid o9; have Q9 := Lib.hid (own_belowM O8.out k9); have K9 := Lib.hid (own_belowM K8.out k9); clear o9 k9)
          | (go_at_call 14; refine (Same_any A8 A9 _ _ c8 c9 (bytesL x4) (bytesL x4) w9 rfl rfl (.of_own Q9.out) (.of_own O9.out) (by have := Hbl.out; omega)).mono ?_; rw [decide_eq_true rfl]; rintro e w10 ⟨rfl, k10⟩; have P10 := Lib.hid (P9.out.over k10); have K10 := Lib.hid (own_belowM K9.out k10); clear k10))
        have S10 := Lib.hid (own_seenM K10.out)
        clear P4 P5 P6 P7 P8 P9 O7 O8 O9 Q9 K8 K9 K10 Hh4
        go_loopw [16] (fun jv wv => ∃ j : Nat, jv = .int .i64 (j : Int) ∧ j ≤ m4 ∧ Below w10.heap.size w10 wv) (fun jv _ => m4 - (intOf jv).toNat)
        case atStart => exact ⟨0, rfl, by omega, Below.refl _ _⟩
        case round =>
          obtain ⟨j, rfl, hj, hb⟩ := hrel
          have Hb := Lib.hid hb
          clear hb
          by_cases hjm : j < m4
          · obtain ⟨r, hr⟩ : ∃ r, x4[j]? = some r := ⟨_, List.getElem?_eq_getElem (by have := P10.out.len; omega)⟩
            obtain ⟨gL, oL, hAL, e0, e1, e2⟩ := (P10.out.over Hb.out).list.get hr
            cases hAL
            obtain ⟨gK, oK, hAK, k0⟩ := (S10.out.below Hb.out).at_ (j := j) (by simp [numsV, keysL, P10.out.len]; omega)
            cases hAK
            have hk : (numsV (keysL x4))[j]'(by simp [numsV, keysL, P10.out.len]; omega) = .int .i64 r.1 := by
              obtain ⟨hk, rfl⟩ := List.getElem?_eq_some_iff.1 hr
              simp [numsV, keysL]
            rw [hk] at k0
            have j0 : (0 : Int) ≤ (j : Int) := by omega
            have j1 : (j : Int) < (m4 : Int) := by omega
            clear hr hk e1 e2
            go_wp2
            go_quiet (fail)
            go_wp2
            go_roundw
            case rel => exact ⟨j + 1, by go_num, by omega, below_drewN Hb.out _⟩
            case measure => simp [intOf]; omega
          · obtain rfl : j = m4 := by omega
            have j1 : ¬ (j : Int) < (j : Int) := by omega
            have PZ := Lib.hid (P10.out.over Hb.out)
            go_wp2
            go_roundw
            case rel => exact ⟨i + 1, j, cp4, x4, A4, by go_num, by omega, rfl, PZ.out⟩
            case measure => simp [intOf]; omega
    · obtain rfl : i = n := by omega
      have i1 : ¬ (i : Int) < (i : Int) := by omega
      have Hb := Lib.hid hp.tab.below
      clear hp
      go_wp2_with (go_at_call 6; refine (awake_any _).mono ?_; rintro e w1 ⟨rfl, hb1⟩; have Hb1 := Lib.hid (Hb.out.trans (hb1.mono Hb.out.size)); clear hb1)
      go_ret
      exact ⟨rfl, Hb1.out⟩

/-! ### THE ROW -/
theorem own : ownKnob Try.prog.godebug = none := by kernel_rfl

set_option maxRecDepth 100000 in
theorem lifted (os : Os) (started : os.Started) (H : Type) (enc : TypeId × Value → H) :
    ReturnsInHanded {} Try.checked os 3 .any (Rows.dupsPlaysSpec.pre6 enc Try.prog Try.f3 Rows.dupsPlaysRow.domain false) (Rows.dupsPlaysSpec.post enc Try.prog Try.f3 false true false false) := by
  refine returnsInHanded_of_change (C := Try.checked) own started (by kernel_rfl) Try.func3
    (ChangeSpec.witness6 (enc := enc) (C := Try.checked) false ⟨#[], #[.slice none 0 0], []⟩ 8 (by kernel_rfl) (by kernel_rfl) (by kernel_rfl) (by kernel_rfl)) ?_
  intro W base args ds gs before hval0 hW hcnd _
  have hval : ∀ (j : Nat) t v, Try.f3.params[j]? = some t → args[j]? = some v → Value.okWide Try.prog W .any base t v := hval0
  have hW' := hW
  obtain ⟨p, q, hA0, hV, rfl, hfz, hnd⟩ := hW
  have hA : DataW.TrodAll enc Try.prog W 0 (fun _ => true) true Try.f3.params.toList args.toList ds p := hA0
  rw [Try.params3] at hA hval
  obtain ⟨v0, vs0, d0, ds0, p0, q0, hargs, rfl, rfl, h0, r0⟩ := trodAll_cons hA
  obtain ⟨rfl, rfl, rfl⟩ := trodAll_nil r0
  obtain rfl : args = #[v0] := by cases args; simp_all
  obtain ⟨rfl, rfl⟩ := trodVars_none hV
  obtain ⟨A0, n0, c0, fs0, rfl, hn0, hnc0, hcm0, hf0⟩ := open_acts9 Try.underlying22 Try.underlying29 rfl rfl rfl rfl rfl rfl rfl rfl Try.underlying3 Try.underlying3 Try.underlying3 Try.underlying3 (by kernel_rfl) (by kernel_rfl) (by kernel_rfl) (by kernel_rfl) (by kernel_rfl) (hval 0 22 v0 rfl rfl) h0
  refine (walk A0 n0 c0 fs0 W hn0 hnc0 hcm0 hf0).mono fun e W' ⟨he, hg⟩ => ?_
  subst he
  exact ⟨_, rfl, law_post hW' rfl (by kernel_rfl) (by kernel_rfl) (by kernel_rfl) Try.underlying4 rfl rfl rfl hg⟩

theorem over : Rows.dupsPlaysRow.holds Try.pinned (OpenSpec.ofChange Rows.dupsPlaysSpec) :=
  OpenClaim.holds_of_wide 3 Try.f3 rfl rfl rfl rfl rfl rfl rfl ⟨rfl, rfl, rfl, rfl, rfl⟩ rfl rfl rfl rfl rfl (by kernel_rfl) Try.func3 (by kernel_rfl)
    (of_decide_eq_true (by kernel_rfl)) (by unfold Func.isWrapper; first | (rw [if_pos (by decide +kernel)]; kernel_rfl) | (rw [if_neg (by decide +kernel)]; exact ⟨rfl, rfl⟩))
    (fun os started H enc _ => lifted os started H enc)

theorem proved : Rows.DupsPlaysSaid :=
  over
#print axioms proved

end Go.Proofs.Ytkjfaijdmpnjkaa.DupsPlays
