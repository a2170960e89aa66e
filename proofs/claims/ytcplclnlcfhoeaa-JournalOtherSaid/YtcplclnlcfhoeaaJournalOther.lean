/-
  JournalOther: of another generation there are no records; of its own there are all that were added and flushed. For every input, without conditions.
-/
import Derived.Test.YtcplclnlcfhoeaaJouA
import Derived.Test.YtcplclnlcfhoeaaJouFlush
import Derived.Test.YtcplclnlcfhoeaaOpenTexts
import Derived.Test.YtcplclnlcfhoeaaLaw
namespace Go.Proofs.Ytcplclnlcfhoeaa.journalOther
open Go.ChangeShapes Go.WideShapes Go.ChangeAt Go.RowKit Go.Proofs.Ytcplclnlcfhoeaa
set_option linter.unusedVariables false

theorem other_many {gen k : Nat} {t : List UInt8} (hg : gen < 256) (hk : k < 100) (ht : t.length ≤ 200) : manyOf gen k t ≤ 4 := by
  unfold manyOf secsOf
  rw [rest_length, fields_length, numB_one (n := k) (by omega)]
  have := numB_len (n := t.length) (k := 1) (by omega)
  have := numB_len (n := gen) (k := 1) (by omega)
  omega
/-- where the loop stands -/
def OtherAt (B g s jg gen : Nat) (w : World) (ts : List (List UInt8)) (k : Nat) (wr : World) : Prop :=
  ∃ J r q, Run J 40 gen (ts.take k) ∧ J.next ≤ 4 * k ∧ IsJ wr B g s r jg q J ∧ Below w.heap.size w wr
theorem u8_nat {a : Int} (h : (Lit.int .u8 a).wf = true) : ∃ x : Nat, a = (x : Int) ∧ x < 256 := by
  have hb := bounds_u8 h
  exact ⟨a.toNat, by omega, by omega⟩
theorem part_all {d : Dv} {n : Nat} (h : d.Ok) (hn : d.n = n) : d.part 0 n = d.view := by
  unfold Dv.part
  rw [Nat.mul_zero, List.drop_zero, List.take_of_length_le (by rw [view_length h, hn]; omega)]

set_option maxRecDepth 100000 in
set_option maxHeartbeats 8000000 in
theorem walk (A : Option Addr) (n c : Nat) (ls : List (Option Addr × Nat × Nat)) (ts : List (List UInt8)) (a1 a2 : Int) (w : World) (hn : ts.length = n) (hnc : n ≤ c) (hcm : c ≤ maxLen) (hs : Seen w A (listsV ls)) (hl : ArgLists w ls ts)
    (w1 : (Lit.int .u8 a1).wf = true) (w2 : (Lit.int .u8 a2).wf = true) :
    Calls Try.prog 4 #[.slice A n c, .int .u8 a1, .int .u8 a2] w fun e w' => e = .returned (.bool true) ∧ Below w.heap.size w w' := by
  obtain ⟨gen, rfl, hg⟩ := u8_nat w1
  obtain ⟨oth, rfl, ho⟩ := u8_nat w2
  have Hn := Lib.hid hn; have Hs := Lib.hid hs; have Hl := Lib.hid hl
  clear hn hs hl w1 w2
  by_cases hl : 8 < n
  · have hli : (8 : Int) < (n : Int) := by omega
    go_enter Try.func4, Try.ntmps4
    go_wp2_with (go_at_call 6; refine (awake_any w).mono ?_; rintro e w1 ⟨rfl, hb⟩; have Hb := Lib.hid hb; clear hb)
    go_ret
    exact ⟨rfl, Hb.out⟩
  · have hli : ¬ (8 : Int) < (n : Int) := by omega
    by_cases heq : gen = oth
    · subst heq
      go_enter Try.func4, Try.ntmps4
      go_wp2_with (go_at_call 6; refine (awake_any w).mono ?_; rintro e w1 ⟨rfl, hb⟩; have Hb := Lib.hid hb; clear hb)
      go_ret
      exact ⟨rfl, Hb.out⟩
    · have heqi : ((gen : Int) == (oth : Int)) = false := by simp; omega
      have Hne := Lib.hid heq; clear heq
      obtain ⟨B, hB⟩ : ∃ B, w.heap.size = B := ⟨_, rfl⟩
      have HB := Lib.hid hB; clear hB
      go_enter Try.func4, Try.ntmps4
      go_wp2_with fail
      refine (New_any 40 w (by omega) (by omega)).mono ?_
      rw [HB.out]
      rintro e w1 ⟨g, s, rfl, hd, hb⟩
      have Hd1 := Lib.hid hd; have Hb1 := Lib.hid hb
      clear hd hb
      have hB1 : B ≤ w1.heap.size := by have := Hb1.out.size; have := HB.out; omega
      go_wp2_with fail
      refine (Open_new B g s 40 gen w1 Hd1.out (by omega)).mono ?_
      rintro e w2 ⟨jg, A2, c2, rfl, hj, hb⟩
      have Hj2 := Lib.hid hj
      have Hb2 := Lib.hid (show Below w.heap.size w w2 from by rw [HB.out]; exact Hb1.out.trans (hb.mono hB1))
      clear hj hb
      go_wp2
      go_loopw [11] (fun iv wr => ∃ k : Nat, k ≤ n ∧ iv = .int .i64 (k : Int) ∧ OtherAt B g s jg gen w ts k wr) (fun iv _ => n - (intOf iv).toNat)
      case atStart => exact ⟨0, by omega, rfl, _, none, none, by simpa using Run.new (n := 40) (gen := gen) (by omega) (by omega), Nat.le_refl _, Hj2.out, Hb2.out⟩
      case round =>
        obtain ⟨k, hkn, rfl, J, r, q, hrun, hnx, hj, hb⟩ := hrel
        have Hrun := Lib.hid hrun; have Hj := Lib.hid hj; have Hb := Lib.hid hb
        have hBr : B ≤ wr.heap.size := by have := hb.size; have := HB.out; omega
        have htl : (ts.take k).length = k := by rw [List.length_take, Hn.out]; omega
        have Htl := Lib.hid htl
        clear hrun hj hb htl
        by_cases hk : k < n
        · obtain ⟨A1, n1, c1, t, e1, e2, e3, e4⟩ := Hl.out.at_ (k := k) (by rw [Hn.out]; exact hk)
          obtain ⟨ga, oa, rfl, hc0⟩ := seen_list (Hs.out.below Hb.out) e1
          have b0 : (0 : Int) ≤ (k : Int) := by omega
          have b1 : (k : Int) < (n : Int) := by omega
          have H3 := Lib.hid e3; have H4 := Lib.hid (e4.below Hb.out); have H2 := Lib.hid e2
          clear e1 e2 e3 e4
          by_cases h200 : 200 < n1
          · have h200i : (200 : Int) < (n1 : Int) := by omega
            go_wp2_with (go_at_call 6; refine (awake_any wr).mono ?_; rintro e w3 ⟨rfl, hb⟩; have Hb3 := Lib.hid (Hb.out.trans (hb.mono Hb.out.size)); clear hb)
            go_ret
            exact ⟨rfl, Hb3.out⟩
          · have h200i : ¬ (200 : Int) < (n1 : Int) := by omega
            have hmany : manyOf gen k t ≤ 4 := other_many hg (by omega) (by rw [H3.out]; omega)
            obtain ⟨J', ha, hr', hnx'⟩ := Hrun.out.add (t := t) (by rw [Htl.out]; exact formE_mk (by omega) (by omega) (by omega)) (by rw [Htl.out]; omega) (by rw [Htl.out]; omega)
            rw [Htl.out] at hnx'
            have htk : ts.take (k + 1) = ts.take k ++ [t] := by
              rw [List.take_add_one, H2.out]; rfl
            rw [← htk] at hr'
            have hJk : J.k < 1000000 := by rw [Hrun.out.jk, Htl.out]; omega
            have hJL : J.L.length < 100000 := by rw [Hrun.out.jL, firsts_length, Htl.out]; omega
            have hJd : J.d.L.length ≤ 900000 := by have := Hrun.out.few; omega
            have Ha := Lib.hid ha; have Hr' := Lib.hid hr'
            clear ha hr' htk
            go_wp2_with (go_at_call 12; refine (Add_any B g s r jg q J A1 n1 c1 t wr Hj.out hJd hJk hJL hBr H3.out H4.out).mono ?_; rw [Ha.out]; rintro e w3 ⟨rfl, hmv⟩; have Hb3 := Lib.hid (Hb.out.trans ((hmv.below Hj.out hBr).mono (by rw [HB.out]; exact Nat.le_refl _))); obtain ⟨r3, q3, hj3, _, _, _⟩ := hmv; have Hj3 := Lib.hid hj3; clear hj3)
            go_roundw
            case rel => exact ⟨k + 1, by omega, by go_num, J', r3, q3, Hr'.out, by omega, Hj3.out, Hb3.out⟩
            case measure => simp [intOf]; omega
        · obtain rfl : k = n := by omega
          have hall : ts.take k = ts := by rw [← Hn.out, List.take_length]
          have Hrun2 := Lib.hid (hall ▸ Hrun.out)
          obtain ⟨J', ha, ok', up', n', L', nx', fin', view'⟩ := Hrun2.out.flush
          have Ha := Lib.hid ha
          have hp' : J'.d.part 0 40 = formsX 1 gen 0 ts ++ List.replicate (64 * (40 - J.next)) 0 := by rw [part_all ok'.d n', view']
          have hs1 : Scanned gen (J'.d.part 0 40) ts := by rw [hp']; exact scanned_forms Hrun2.out.forms
          have hs2 : Scanned oth (J'.d.part 0 40) [] := by rw [hp']; exact scanned_other Hne.out Hrun2.out.forms
          have Hs1 := Lib.hid hs1; have Hs2 := Lib.hid hs2
          have hnext : secsUp gen 0 ts = J.next := Hrun2.out.next.symm
          have hn40 : J.next ≤ 40 := by omega
          have hroom : (40 : Int) - ((J'.fin - J'.next : Nat) : Int) = (J.next : Int) := by rw [fin', nx']; omega
          have hsmall : ∀ (i : Nat) t, ts[i]? = some t → t.length ≤ 1000000 := fun i t h => by
            have h1 := Hrun2.out.forms i t h
            have := text_small (formE_nat h1).2.2
            omega
          have Hls := Lib.hid (Hl.out.lists hsmall)
          have hJd : J.d.L.length ≤ 800000 := by have := Hrun.out.few; omega
          have Hok := Lib.hid (And.intro ok' (And.intro up' (And.intro n' (And.intro L' (And.intro nx' fin')))))
          have Hnext := Lib.hid hnext; have Hroom := Lib.hid hroom
          clear ha ok' up' n' L' nx' fin' view' hp' hs1 hs2 hnext hsmall hall hroom
          go_wp2_with fail
          refine (JFlush_any B g s r jg q J wr Hj.out hJd hBr).mono ?_
          rw [Ha.out]
          rintro e w3 ⟨rfl, hmv⟩
          have Hb3 := Lib.hid (Hb.out.trans ((hmv.below Hj.out hBr).mono (by rw [HB.out]; exact Nat.le_refl _)))
          obtain ⟨r3, q3, hj3, _, _, _⟩ := hmv
          have Hj3 := Lib.hid hj3
          clear hj3
          go_wp2_with fail
          refine (Scan_any B g s r3 J'.d 0 40 oth w3 Hj3.out.dev (by rw [Hok.out.2.2.2.1]; exact Nat.zero_le _) Hok.out.2.1.2 (by rw [Hok.out.2.2.1]; omega) (by omega)).mono ?_
          rintro e w4 ⟨hb4, us, A4, m4, c4, rfl, hsc, hta⟩
          obtain rfl := hsc.one Hs2.out
          obtain rfl : m4 = 0 := hta.1.symm
          rw [show (secsUp oth 0 [] : Int) = 0 from rfl]
          have Hj4 := Lib.hid (Hj3.out.below hb4)
          have Hb4 := Lib.hid (Hb3.out.trans (hb4.mono Hb3.out.size))
          clear hb4 hsc hta
          go_wp2_with fail
          refine (Scan_any B g s r3 J'.d 0 40 gen w4 Hj4.out.dev (by rw [Hok.out.2.2.2.1]; exact Nat.zero_le _) Hok.out.2.1.2 (by rw [Hok.out.2.2.1]; omega) (by omega)).mono ?_
          rintro e w5 ⟨hb5, us, A5, m5, c5, rfl, hsc, hta⟩
          obtain rfl := hsc.one Hs1.out
          rw [Hnext.out]
          have hm5 : m5 = k := by rw [← hta.1, Hn.out]
          subst hm5
          have Hj5 := Lib.hid (Hj4.out.below hb5)
          have Hb5 := Lib.hid (Hb4.out.trans (hb5.mono Hb4.out.size))
          obtain ⟨_, ms, hown5, hls5, _, _⟩ := hta
          have Hown5 := Lib.hid (Seen.of_own hown5); have Hls5 := Lib.hid hls5
          clear hb5 hsc hown5 hls5
          obtain ⟨R', hR'⟩ : ∃ R', J'.fin - J'.next = R' := ⟨_, rfl⟩
          have hroom := Hroom.out
          rw [hR'] at hroom
          have HR' := Lib.hid hR'
          clear hR'
          go_wp2_with (first
            | (go_at_call 15; refine (SameAll_same A5 A m5 c5 c ms ls us w5 Hn.out (by omega) Hown5.out Hls5.out (Hs.out.below Hb5.out) (Hls.out.below Hb5.out)).mono ?_; rintro e w6 ⟨rfl, hb6⟩; have Hj6 := Lib.hid (Hj5.out.below hb6); have Hb6 := Lib.hid (Hb5.out.trans (hb6.mono Hb5.out.size)); clear hb6)
            | (go_at_call 16; refine (Room_any B g s r3 jg q3 J' w6 Hj6.out).mono ?_; rw [HR'.out]; rintro e w7 ⟨rfl, hb7⟩; have Hb7 := Lib.hid (Hb6.out.trans (hb7.mono Hb6.out.size)); clear hb7)
            | (go_at_call 6; refine (awake_any w7).mono ?_; rintro e w8 ⟨rfl, hb8⟩; have Hb8 := Lib.hid (Hb7.out.trans (hb8.mono Hb7.out.size)); clear hb8))
          go_ret
          exact ⟨rfl, Hb8.out⟩

/-! ### THE ROW -/
theorem own : ownKnob Try.prog.godebug = none := by kernel_rfl

set_option maxRecDepth 100000 in
theorem lifted (os : Os) (started : os.Started) (H : Type) (enc : TypeId × Value → H) :
    ReturnsInHanded {} Try.checked os 4 .any (Rows.journalOtherSpec.pre6 enc Try.prog Try.f4 Rows.journalOtherRow.domain false) (Rows.journalOtherSpec.post enc Try.prog Try.f4 false true false false) := by
  refine returnsInHanded_of_change (C := Try.checked) own started (by kernel_rfl) Try.func4
    (ChangeSpec.witness6 (enc := enc) (C := Try.checked) false ⟨#[], #[.slice none 0 0, .int .u8 0, .int .u8 0], []⟩ 8 (by kernel_rfl) (by kernel_rfl) (by kernel_rfl) (by kernel_rfl)) ?_
  intro W base args ds gs before hval0 hW hcnd _
  have hval : ∀ (j : Nat) t v, Try.f4.params[j]? = some t → args[j]? = some v → Value.okWide Try.prog W .any base t v := hval0
  have hW' := hW
  obtain ⟨p, q, hA0, hV, rfl, hfz, hnd⟩ := hW
  have hA : DataW.TrodAll enc Try.prog W 0 (fun _ => true) true Try.f4.params.toList args.toList ds p := hA0
  rw [Try.params4] at hA hval
  obtain ⟨v0, vs0, d0, ds0, p0, q0, hargs, rfl, rfl, h0, r0⟩ := trodAll_cons hA
  obtain ⟨v1, vs1, d1, ds1, p1, q1, rfl, rfl, rfl, h1, r1⟩ := trodAll_cons r0
  obtain ⟨v2, vs2, d2, ds2, p2, q2, rfl, rfl, rfl, h2, r2⟩ := trodAll_cons r1
  obtain ⟨rfl, rfl, rfl⟩ := trodAll_nil r2
  obtain rfl : args = #[v0, v1, v2] := by cases args; simp_all
  obtain ⟨rfl, rfl⟩ := trodVars_none hV
  obtain ⟨A0, n0, c0, ls0, ts0, rfl, hn0, hnc0, hcm0, hs0, hl0⟩ := open_texts Try.underlying31 Try.underlying22 Try.underlying5 (by kernel_rfl) (by kernel_rfl) (hval 0 31 v0 rfl rfl) h0
  obtain ⟨a1, rfl, rfl, rfl, w1⟩ := open_int Try.underlying5 (hval 1 5 v1 rfl rfl) h1
  obtain ⟨a2, rfl, rfl, rfl, w2⟩ := open_int Try.underlying5 (hval 2 5 v2 rfl rfl) h2
  refine (walk A0 n0 c0 ls0 ts0 a1 a2 W hn0 hnc0 hcm0 hs0 hl0 w1 w2).mono fun e W' ⟨he, hg⟩ => ?_
  subst he
  exact ⟨_, rfl, law_post hW' rfl (by kernel_rfl) (by kernel_rfl) (by kernel_rfl) Try.underlying4 rfl rfl rfl hg⟩

theorem over : Rows.journalOtherRow.holds Try.pinned (OpenSpec.ofChange Rows.journalOtherSpec) :=
  OpenClaim.holds_of_wide 4 Try.f4 rfl rfl rfl rfl rfl rfl rfl ⟨rfl, rfl, rfl, rfl, rfl⟩ rfl rfl rfl rfl rfl (by kernel_rfl) Try.func4 (by kernel_rfl)
    (of_decide_eq_true (by kernel_rfl)) (by unfold Func.isWrapper; first | (rw [if_pos (by decide +kernel)]; kernel_rfl) | (rw [if_neg (by decide +kernel)]; exact ⟨rfl, rfl⟩))
    (fun os started H enc _ => lifted os started H enc)

theorem proved : Rows.JournalOtherSaid :=
  over
#print axioms proved

end Go.Proofs.Ytcplclnlcfhoeaa.journalOther
