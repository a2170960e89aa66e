/-
  BallotBytes: a right ballot comes back out of its bytes; other bytes are refused; it holds for every input (of up to 20 bytes, else the example), and the arguments stay as they were. No condition. (Written by gen_ballotbytes.py.)
-/
import Derived.Test.YtaficaapfccikaaBalAwk
import Derived.Test.YtaficaapfccikaaBalByt
import Derived.Test.YtaficaapfccikaaSame
import Derived.Test.YtaficaapfccikaaLaw
import Derived.Test.YtaficaapfccikaaRows
import Derived.Test.YtaficaapfccikaaChecked
namespace Go.Proofs.Ytaficaapfccikaa.BallotBytes
open Go.ChangeShapes Go.WideShapes Go.ChangeAt Go.RowKit
set_option linter.unusedVariables false

theorem bytesB_inj {a b : Bal} {bs : List UInt8} (h : RightB a) (k : RightB b) (ha : bytesB a = bs) (hb : bytesB b = bs) : a = b := by
  have p := rdB_of h ha
  have q := rdB_of k hb
  have e1 := p.1.symm.trans q.1
  have e2 := p.2.symm.trans q.2
  injection e1 with e1 _
  injection e2 with e2 _
  obtain ⟨x, y⟩ := a
  obtain ⟨u, v⟩ := b
  unfold RightB at h k
  simp only at h k e1 e2
  rw [show x = u by omega, show y = v by omega]
/-- bytes that are a right ballot's -/
theorem read_yes (A : Option Addr) (n c : Nat) (bs : List UInt8) (b : Bal) (w : World) (hn : bs.length = n) (hl : n ≤ 1000000) (hs : Seen w A (bytesV bs)) (hr : RightB b) (hb : bytesB b = bs) :
    Calls Try.prog 16 #[.slice A n c] w fun e w' => e = .returned (.tuple #[.agg #[.int .i64 b.te, .int .i64 b.vo], .bool true]) ∧ Below w.heap.size w w' := by
  refine (BRead_any A n c bs w hn hl hs).mono ?_
  rintro e w' ⟨⟨b2, k1, k2, k3⟩ | ⟨k1, _⟩, hbl⟩
  · obtain rfl := bytesB_inj k1 hr k2 hb
    exact ⟨k3, hbl⟩
  · exact absurd hb (k1 b hr)
theorem read_no (A : Option Addr) (n c : Nat) (bs : List UInt8) (w : World) (hn : bs.length = n) (hl : n ≤ 1000000) (hs : Seen w A (bytesV bs)) (hno : ¬ ∃ b, RightB b ∧ bytesB b = bs) :
    Calls Try.prog 16 #[.slice A n c] w fun e w' => e = .returned (.tuple #[.agg #[.int .i64 0, .int .i64 0], .bool false]) ∧ Below w.heap.size w w' := by
  refine (BRead_any A n c bs w hn hl hs).mono ?_
  rintro e w' ⟨⟨b2, k1, k2, k3⟩ | ⟨k1, k2⟩, hbl⟩
  · exact absurd ⟨b2, k1, k2⟩ hno
  · exact ⟨k2, hbl⟩

attribute [local go_sem ↓] ldBal_eq
set_option maxRecDepth 100000 in
set_option maxHeartbeats 2000000 in
theorem walkIn (b : Bal) (A : Option Addr) (n c : Nat) (bs : List UInt8) (w : World) (hn : bs.length = n) (m : n ≤ 20) (hs : Seen w A (bytesV bs)) :
    Calls Try.prog 5 #[.agg #[.int .i64 b.te, .int .i64 b.vo], .slice A n c] w fun e w' => e = .returned (.bool true) ∧ Below w.heap.size w w' := by
  have l1 : ¬ (20 : Int) < (n : Int) := by omega
  have B1 := below_box w (.cells #[.int .i64 b.te, .int .i64 b.vo] 23)
  have A1 : BalAt _ _ b := BalAt.new w b
  have KR := Lib.hid (RRight_any b)
  have HS := Lib.hid hs; have HN := Lib.hid hn
  clear hn
  by_cases hr : RightB b
  · have Hr := Lib.hid hr; clear hr
    by_cases hex : ∃ lx, RightB lx ∧ bytesB lx = bs
    · obtain ⟨lx, hrx, hbx⟩ := hex
      have Hrx := Lib.hid hrx; have Hbx := Lib.hid hbx; clear hrx hbx hs
      go_enter Try.func5, Try.ntmps5
      go_upto_region 1 with fail
      change Code.wp _ _ _ _ (w.alloc (.cells #[.int .i64 b.te, .int .i64 b.vo] 23))
      generalize w.alloc (.cells #[.int .i64 b.te, .int .i64 b.vo] 23) = w1 at B1 A1 ⊢
      have HB1 := Lib.hid B1; have HA1 := Lib.hid A1; have HS1 := Lib.hid (HS.out.below HB1.out)
      clear B1 A1
      go_upto_region 4 with (go_at_call 16; refine (read_yes A n c bs lx w1 HN.out (by omega) HS1.out Hrx.out Hbx.out).mono ?_; rintro e w2 ⟨rfl, hb2⟩)
      change Code.wp _ _ _ _ (w2.alloc (.cells #[.int .i64 lx.te, .int .i64 lx.vo] 23))
      have A3 : BalAt _ _ lx := BalAt.new w2 lx
      have B3 := hb2.trans ((below_box w2 (.cells #[.int .i64 lx.te, .int .i64 lx.vo] 23)).mono hb2.size)
      generalize w2.alloc (.cells #[.int .i64 lx.te, .int .i64 lx.vo] 23) = w3 at A3 B3 ⊢
      have HB3 := Lib.hid (HB1.out.trans (B3.mono HB1.out.size)); have HA1' := Lib.hid (HA1.out.below B3)
      have ld3 := ldBal_run A3
      have HA3 := Lib.hid A3
      clear hb2 B3 A3
      have bl := Lib.hid (bytesB_length Hrx.out)
      go_upto_region 6 with (first
        | (go_at_call 17; refine (Same_any A5 A _ n c5 c (bytesB lx) bs w5 (bytes_length _).symm HN.out (.of_own Hown5.out) (HS.out.below Hb5.out) (by rw [bytes_length]; have := bl.out; omega)).mono ?_; rintro e w6 ⟨rfl, hb6⟩; rw [show decide (bytesB lx = bs) = true from decide_eq_true Hbx.out]; have Hb6 := Lib.hid (Hb5.out.trans (hb6.mono Hb5.out.size)); have HA6 := Lib.hid (HA5.out.below hb6); clear hb6)
        | (go_at_call 18; refine (BBytes_any lx w4 Hrx.out).mono ?_; rintro e w5 ⟨A5, c5, rfl, hown5, hb5⟩; have Hown5 := Lib.hid hown5; have Hb5 := Lib.hid (Hb4.out.trans (hb5.mono Hb4.out.size)); have HA5 := Lib.hid (HA4.out.below hb5); clear hown5 hb5)
        | (go_at_call 10; refine (RRight_any lx w3).mono ?_; rintro e w4 ⟨rfl, hb4⟩; rw [show decide (RightB lx) = true from decide_eq_true Hrx.out]; have Hb4 := Lib.hid (HB3.out.trans (hb4.mono HB3.out.size)); have HA4 := Lib.hid (HA1'.out.below hb4); have ld4 := ldBal_run (HA3.out.below hb4); clear hb4))
      clear ld3 ld4
      have ldb := ldBal_run HA6.out
      go_upto_region 8 with (go_at_call 10; refine (KR.out _).mono ?_; rintro e w7 ⟨rfl, hb7⟩; rw [show decide (RightB b) = true from decide_eq_true Hr.out]; have Hb7 := Lib.hid (Hb6.out.trans (hb7.mono Hb6.out.size)); have HA7 := Lib.hid (HA6.out.below hb7); clear hb7)
      clear ldb
      have ldb := ldBal_run HA7.out
      have bb := Lib.hid (bytesB_length Hr.out)
      go_upto_region 9 with (first
        | (go_at_call 16; refine (read_yes A8 _ c8 (bytesB b) b w8 (bytes_length _).symm (by rw [bytes_length]; have := bb.out; omega) (.of_own Hown8.out) Hr.out rfl).mono ?_; rintro e w9 ⟨rfl, hb9⟩)
        | (go_at_call 18; refine (BBytes_any b w7 Hr.out).mono ?_; rintro e w8 ⟨A8, c8, rfl, hown8, hb8⟩; have Hown8 := Lib.hid hown8; have Hb8 := Lib.hid (Hb7.out.trans (hb8.mono Hb7.out.size)); have HA8 := Lib.hid (HA7.out.below hb8); clear hown8 hb8))
      change Code.wp _ _ _ _ (w9.alloc (.cells #[.int .i64 b.te, .int .i64 b.vo] 23))
      have A10 : BalAt _ _ b := BalAt.new w9 b
      have B10 := hb9.trans ((below_box w9 (.cells #[.int .i64 b.te, .int .i64 b.vo] 23)).mono hb9.size)
      generalize w9.alloc (.cells #[.int .i64 b.te, .int .i64 b.vo] 23) = w10 at A10 B10 ⊢
      have HB10 := Lib.hid (Hb8.out.trans (B10.mono Hb8.out.size))
      have ldy := ldBal_run A10
      clear ldb
      have ldb := ldBal_run (HA8.out.below B10)
      clear hb9 B10 A10
      go_wp2_with (go_at_call 14; refine (awake_any _).mono ?_; rintro e w12 ⟨rfl, hz⟩; have Hz := Lib.hid hz; clear hz)
      go_ret
      exact ⟨rfl, HB10.out.trans (Hz.out.mono HB10.out.size)⟩
    · have HX := Lib.hid hex; clear hex hs
      go_enter Try.func5, Try.ntmps5
      go_upto_region 1 with fail
      change Code.wp _ _ _ _ (w.alloc (.cells #[.int .i64 b.te, .int .i64 b.vo] 23))
      generalize w.alloc (.cells #[.int .i64 b.te, .int .i64 b.vo] 23) = w1 at B1 A1 ⊢
      have HB1 := Lib.hid B1; have HA1 := Lib.hid A1; have HS1 := Lib.hid (HS.out.below HB1.out)
      clear B1 A1
      go_upto_region 4 with (go_at_call 16; refine (read_no A n c bs w1 HN.out (by omega) HS1.out HX.out).mono ?_; rintro e w2 ⟨rfl, hb2⟩)
      change Code.wp _ _ _ _ (w2.alloc (.cells #[.int .i64 0, .int .i64 0] 23))
      have A3 : BalAt _ _ ⟨0, 0⟩ := BalAt.new w2 ⟨0, 0⟩
      simp only at A3
      have B3 := hb2.trans ((below_box w2 (.cells #[.int .i64 0, .int .i64 0] 23)).mono hb2.size)
      generalize w2.alloc (.cells #[.int .i64 0, .int .i64 0] 23) = w3 at A3 B3 ⊢
      have HB3 := Lib.hid (HB1.out.trans (B3.mono HB1.out.size)); have HA1' := Lib.hid (HA1.out.below B3)
      have ld3 := ldBal_run A3
      simp only at ld3
      clear hb2 B3 A3
      go_upto_region 6 with fail
      clear ld3
      have ldb := ldBal_run HA1'.out
      go_upto_region 8 with (go_at_call 10; refine (KR.out _).mono ?_; rintro e w7 ⟨rfl, hb7⟩; rw [show decide (RightB b) = true from decide_eq_true Hr.out]; have Hb7 := Lib.hid (HB3.out.trans (hb7.mono HB3.out.size)); have HA7 := Lib.hid (HA1'.out.below hb7); clear hb7)
      clear ldb
      have ldb := ldBal_run HA7.out
      have bb := Lib.hid (bytesB_length Hr.out)
      go_upto_region 9 with (first
        | (go_at_call 16; refine (read_yes A8 _ c8 (bytesB b) b w8 (bytes_length _).symm (by rw [bytes_length]; have := bb.out; omega) (.of_own Hown8.out) Hr.out rfl).mono ?_; rintro e w9 ⟨rfl, hb9⟩)
        | (go_at_call 18; refine (BBytes_any b w7 Hr.out).mono ?_; rintro e w8 ⟨A8, c8, rfl, hown8, hb8⟩; have Hown8 := Lib.hid hown8; have Hb8 := Lib.hid (Hb7.out.trans (hb8.mono Hb7.out.size)); have HA8 := Lib.hid (HA7.out.below hb8); clear hown8 hb8))
      change Code.wp _ _ _ _ (w9.alloc (.cells #[.int .i64 b.te, .int .i64 b.vo] 23))
      have A10 : BalAt _ _ b := BalAt.new w9 b
      have B10 := hb9.trans ((below_box w9 (.cells #[.int .i64 b.te, .int .i64 b.vo] 23)).mono hb9.size)
      generalize w9.alloc (.cells #[.int .i64 b.te, .int .i64 b.vo] 23) = w10 at A10 B10 ⊢
      have HB10 := Lib.hid (Hb8.out.trans (B10.mono Hb8.out.size))
      have ldy := ldBal_run A10
      clear ldb
      have ldb := ldBal_run (HA8.out.below B10)
      clear hb9 B10 A10
      go_wp2_with (go_at_call 14; refine (awake_any _).mono ?_; rintro e w12 ⟨rfl, hz⟩; have Hz := Lib.hid hz; clear hz)
      go_ret
      exact ⟨rfl, HB10.out.trans (Hz.out.mono HB10.out.size)⟩
  · have Hr := Lib.hid hr; clear hr
    by_cases hex : ∃ lx, RightB lx ∧ bytesB lx = bs
    · obtain ⟨lx, hrx, hbx⟩ := hex
      have Hrx := Lib.hid hrx; have Hbx := Lib.hid hbx; clear hrx hbx hs
      go_enter Try.func5, Try.ntmps5
      go_upto_region 1 with fail
      change Code.wp _ _ _ _ (w.alloc (.cells #[.int .i64 b.te, .int .i64 b.vo] 23))
      generalize w.alloc (.cells #[.int .i64 b.te, .int .i64 b.vo] 23) = w1 at B1 A1 ⊢
      have HB1 := Lib.hid B1; have HA1 := Lib.hid A1; have HS1 := Lib.hid (HS.out.below HB1.out)
      clear B1 A1
      go_upto_region 4 with (go_at_call 16; refine (read_yes A n c bs lx w1 HN.out (by omega) HS1.out Hrx.out Hbx.out).mono ?_; rintro e w2 ⟨rfl, hb2⟩)
      change Code.wp _ _ _ _ (w2.alloc (.cells #[.int .i64 lx.te, .int .i64 lx.vo] 23))
      have A3 : BalAt _ _ lx := BalAt.new w2 lx
      have B3 := hb2.trans ((below_box w2 (.cells #[.int .i64 lx.te, .int .i64 lx.vo] 23)).mono hb2.size)
      generalize w2.alloc (.cells #[.int .i64 lx.te, .int .i64 lx.vo] 23) = w3 at A3 B3 ⊢
      have HB3 := Lib.hid (HB1.out.trans (B3.mono HB1.out.size)); have HA1' := Lib.hid (HA1.out.below B3)
      have ld3 := ldBal_run A3
      have HA3 := Lib.hid A3
      clear hb2 B3 A3
      have bl := Lib.hid (bytesB_length Hrx.out)
      go_upto_region 6 with (first
        | (go_at_call 17; refine (Same_any A5 A _ n c5 c (bytesB lx) bs w5 (bytes_length _).symm HN.out (.of_own Hown5.out) (HS.out.below Hb5.out) (by rw [bytes_length]; have := bl.out; omega)).mono ?_; rintro e w6 ⟨rfl, hb6⟩; rw [show decide (bytesB lx = bs) = true from decide_eq_true Hbx.out]; have Hb6 := Lib.hid (Hb5.out.trans (hb6.mono Hb5.out.size)); have HA6 := Lib.hid (HA5.out.below hb6); clear hb6)
        | (go_at_call 18; refine (BBytes_any lx w4 Hrx.out).mono ?_; rintro e w5 ⟨A5, c5, rfl, hown5, hb5⟩; have Hown5 := Lib.hid hown5; have Hb5 := Lib.hid (Hb4.out.trans (hb5.mono Hb4.out.size)); have HA5 := Lib.hid (HA4.out.below hb5); clear hown5 hb5)
        | (go_at_call 10; refine (RRight_any lx w3).mono ?_; rintro e w4 ⟨rfl, hb4⟩; rw [show decide (RightB lx) = true from decide_eq_true Hrx.out]; have Hb4 := Lib.hid (HB3.out.trans (hb4.mono HB3.out.size)); have HA4 := Lib.hid (HA1'.out.below hb4); have ld4 := ldBal_run (HA3.out.below hb4); clear hb4))
      clear ld3 ld4
      have ldb := ldBal_run HA6.out
      go_wp2_with (first
        | (go_at_call 14; refine (awake_any _).mono ?_; rintro e w12 ⟨rfl, hz⟩; have Hz := Lib.hid hz; clear hz)
        | (go_at_call 10; refine (KR.out _).mono ?_; rintro e w7 ⟨rfl, hb7⟩; rw [show decide (RightB b) = false from decide_eq_false Hr.out]; have Hb7 := Lib.hid (Hb6.out.trans (hb7.mono Hb6.out.size)); have HA7 := Lib.hid (HA6.out.below hb7); clear hb7))
      go_ret
      exact ⟨rfl, Hb7.out.trans (Hz.out.mono Hb7.out.size)⟩
    · have HX := Lib.hid hex; clear hex hs
      go_enter Try.func5, Try.ntmps5
      go_upto_region 1 with fail
      change Code.wp _ _ _ _ (w.alloc (.cells #[.int .i64 b.te, .int .i64 b.vo] 23))
      generalize w.alloc (.cells #[.int .i64 b.te, .int .i64 b.vo] 23) = w1 at B1 A1 ⊢
      have HB1 := Lib.hid B1; have HA1 := Lib.hid A1; have HS1 := Lib.hid (HS.out.below HB1.out)
      clear B1 A1
      go_upto_region 4 with (go_at_call 16; refine (read_no A n c bs w1 HN.out (by omega) HS1.out HX.out).mono ?_; rintro e w2 ⟨rfl, hb2⟩)
      change Code.wp _ _ _ _ (w2.alloc (.cells #[.int .i64 0, .int .i64 0] 23))
      have A3 : BalAt _ _ ⟨0, 0⟩ := BalAt.new w2 ⟨0, 0⟩
      simp only at A3
      have B3 := hb2.trans ((below_box w2 (.cells #[.int .i64 0, .int .i64 0] 23)).mono hb2.size)
      generalize w2.alloc (.cells #[.int .i64 0, .int .i64 0] 23) = w3 at A3 B3 ⊢
      have HB3 := Lib.hid (HB1.out.trans (B3.mono HB1.out.size)); have HA1' := Lib.hid (HA1.out.below B3)
      have ld3 := ldBal_run A3
      simp only at ld3
      clear hb2 B3 A3
      go_upto_region 6 with fail
      clear ld3
      have ldb := ldBal_run HA1'.out
      go_wp2_with (first
        | (go_at_call 14; refine (awake_any _).mono ?_; rintro e w12 ⟨rfl, hz⟩; have Hz := Lib.hid hz; clear hz)
        | (go_at_call 10; refine (KR.out _).mono ?_; rintro e w7 ⟨rfl, hb7⟩; rw [show decide (RightB b) = false from decide_eq_false Hr.out]; have Hb7 := Lib.hid (HB3.out.trans (hb7.mono HB3.out.size)); have HA7 := Lib.hid (HA1'.out.below hb7); clear hb7))
      go_ret
      exact ⟨rfl, Hb7.out.trans (Hz.out.mono Hb7.out.size)⟩

set_option maxRecDepth 100000 in
theorem walk (b : Bal) (A : Option Addr) (n c : Nat) (bs : List UInt8) (w : World) (hb : InB b) (hn : bs.length = n) (hnc : n ≤ c) (hcm : c ≤ maxLen) (hs : Seen w A (bytesV bs)) :
    Calls Try.prog 5 #[.agg #[.int .i64 b.te, .int .i64 b.vo], .slice A n c] w fun e w' => e = .returned (.bool true) ∧ Below w.heap.size w w' := by
  by_cases m : n ≤ 20
  · exact walkIn b A n c bs w hn m hs
  · have l1 : (20 : Int) < (n : Int) := by omega
    have HB := Lib.hid (below_box w (.cells #[.int .i64 b.te, .int .i64 b.vo] 23))
    clear hn hs hb
    go_enter Try.func5, Try.ntmps5
    go_wp2_with (go_at_call 14; refine (awake_any _).mono ?_; rintro e w9 ⟨rfl, hz⟩; have Hz := Lib.hid hz; clear hz)
    go_ret
    exact ⟨rfl, HB.out.trans (Hz.out.mono HB.out.size)⟩

/-! ### THE ROW -/
theorem own : ownKnob Try.prog.godebug = none := by kernel_rfl

set_option maxRecDepth 100000 in
theorem lifted (os : Os) (started : os.Started) (H : Type) (enc : TypeId × Value → H) :
    ReturnsInHanded {} Try.checked os 5 .any (Rows.ballotBytesSpec.pre6 enc Try.prog Try.f5 Rows.ballotBytesRow.domain false) (Rows.ballotBytesSpec.post enc Try.prog Try.f5 false true false false) := by
  refine returnsInHanded_of_change (C := Try.checked) own started (by kernel_rfl) Try.func5
    (ChangeSpec.witness6 (enc := enc) (C := Try.checked) false ⟨#[], #[.agg #[.int .i64 0, .int .i64 0], .slice none 0 0], []⟩ 8 (by kernel_rfl) (by kernel_rfl) (by kernel_rfl) (by kernel_rfl)) ?_
  intro W base args ds gs before hval0 hW hcnd _
  have hval : ∀ (j : Nat) t v, Try.f5.params[j]? = some t → args[j]? = some v → Value.okWide Try.prog W .any base t v := hval0
  have hW' := hW
  obtain ⟨p, q, hA0, hV, rfl, hfz, hnd⟩ := hW
  have hA : DataW.TrodAll enc Try.prog W 0 (fun _ => true) true Try.f5.params.toList args.toList ds p := hA0
  rw [Try.params5] at hA hval
  obtain ⟨v0, vs0, d0, ds0, p0, q0, hargs, rfl, rfl, h0, r0⟩ := trodAll_cons hA
  obtain ⟨v1, vs1, d1, ds1, p1, q1, rfl, rfl, rfl, h1, r1⟩ := trodAll_cons r0
  obtain ⟨rfl, rfl, rfl⟩ := trodAll_nil r1
  obtain rfl : args = #[v0, v1] := by cases args; simp_all
  obtain ⟨rfl, rfl⟩ := trodVars_none hV
  obtain ⟨b0_, rfl, hb0⟩ := open_bal Try.underlying23 rfl rfl rfl rfl Try.underlying3 Try.underlying3 (by kernel_rfl) (by kernel_rfl) (by kernel_rfl) (hval 0 23 v0 rfl rfl) h0
  obtain ⟨A1, n1, c1, bs1, rfl, hn1, hnc1, hcm1, hsee1⟩ := open_bytes Try.underlying31 Try.underlying5 (by kernel_rfl) (hval 1 31 v1 rfl rfl) h1
  refine (walk b0_ A1 n1 c1 bs1 W hb0 hn1 hnc1 hcm1 hsee1).mono fun e W' ⟨he, hg⟩ => ?_
  subst he
  exact ⟨_, rfl, law_post hW' rfl (by kernel_rfl) (by kernel_rfl) (by kernel_rfl) Try.underlying4 rfl rfl rfl hg⟩

theorem over : Rows.ballotBytesRow.holds Try.pinned (OpenSpec.ofChange Rows.ballotBytesSpec) :=
  OpenClaim.holds_of_wide 5 Try.f5 rfl rfl rfl rfl rfl rfl rfl ⟨rfl, rfl, rfl, rfl, rfl⟩ rfl rfl rfl rfl rfl (by kernel_rfl) Try.func5 (by kernel_rfl)
    (of_decide_eq_true (by kernel_rfl)) (by unfold Func.isWrapper; first | (rw [if_pos (by decide +kernel)]; kernel_rfl) | (rw [if_neg (by decide +kernel)]; exact ⟨rfl, rfl⟩))
    (fun os started H enc _ => lifted os started H enc)

theorem proved : Rows.BallotBytesSaid :=
  over
#print axioms proved

end Go.Proofs.Ytaficaapfccikaa.BallotBytes
