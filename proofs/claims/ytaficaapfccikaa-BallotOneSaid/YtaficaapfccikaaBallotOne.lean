/-
  BallotOne: in a term one votes for at most one, whoever asks, in whatever order; terms never fall; it holds for every input (of up to 60 wishes and a right ballot, else the example), and the arguments stay as they were. No condition.
-/
import Derived.Test.YtaficaapfccikaaBalInv
import Derived.Deep.QuietTactic
import Derived.BigQuiet
import Derived.Test.YtaficaapfccikaaLaw
import Derived.Test.YtaficaapfccikaaRows
import Derived.Test.YtaficaapfccikaaChecked
namespace Go.Proofs.Ytaficaapfccikaa.BallotOne
open Go.ChangeShapes Go.WideShapes Go.ChangeAt Go.RowKit
set_option linter.unusedVariables false

attribute [local go_sem ↓] ldBal_eq
set_option maxRecDepth 100000 in
set_option maxHeartbeats 4000000 in
theorem walkIn (b : Bal) (A1 A2 : Option Addr) (n1 n2 c1 c2 : Nat) (xs ys : List UInt8) (w : World) (hx : xs.length = n1) (hy : ys.length = n2) (m1 : n1 ≤ 60) (m2 : n1 ≤ n2) (m3 : n2 ≤ 100) (s1 : Seen w A1 (bytesV xs)) (s2 : Seen w A2 (bytesV ys)) (hr : RightB b) :
    Calls Try.prog 4 #[.agg #[.int .i64 b.te, .int .i64 b.vo], .slice A1 n1 c1, .slice A2 n2 c2] w fun e w' => e = .returned (.bool true) ∧ Below w.heap.size w w' := by
  have l1 : ¬ (60 : Int) < (n1 : Int) := by omega
  have l2 : ¬ (n2 : Int) < (n1 : Int) := by omega
  have l3 : ¬ (100 : Int) < (n2 : Int) := by omega
  have B1 := below_box w (.cells #[.int .i64 b.te, .int .i64 b.vo] 23)
  have A0 : BalAt _ _ b := BalAt.new w b
  have KR := Lib.hid (Right_any b)
  rw [decide_eq_true hr] at KR
  have S1 := Lib.hid s1; have S2 := Lib.hid s2; have HX := Lib.hid hx; have HY := Lib.hid hy; have Hr := Lib.hid hr
  have hz := z300_run
  clear s1 s2 hx hy hr
  go_enter Try.func4, Try.ntmps4
  go_upto_region 1 with fail
  change Code.wp _ _ _ _ (w.alloc (.cells #[.int .i64 b.te, .int .i64 b.vo] 23))
  generalize w.alloc (.cells #[.int .i64 b.te, .int .i64 b.vo] 23) = w1 at B1 A0 ⊢
  have HB1 := Lib.hid B1; have HA1 := Lib.hid A0
  have ld := ldBal_run A0
  clear B1 A0
  go_upto_region 4 with (go_at_call 9; refine (KR.out _).mono ?_; rintro e w2 ⟨rfl, hb2⟩)
  change Code.wp _ _ _ _ (w2.alloc (.cells z300 32))
  have G3 := GivAt.new w2
  have B3 := hb2.trans ((below_box w2 (.cells z300 32)).mono hb2.size)
  have hg1 : w.heap.size < w2.heap.size := by have := block_lt_of_cell HA1.out.c0; have := hb2.size; simp only at *; omega
  generalize w2.alloc (.cells z300 32) = w3 at G3 B3 ⊢
  generalize w2.heap.size = q at G3 hg1 ⊢
  have HG3 := Lib.hid G3; have HB3 := Lib.hid (HB1.out.trans (B3.mono HB1.out.size)); have HA3 := Lib.hid (HA1.out.below B3); have Hq := Lib.hid hg1
  clear G3 B3 hb2 ld hz hg1
  go_wp2
  go_loopw [8] (fun iv wr => ∃ (k : Nat) (d : Bal) (F : Nat → Int), k ≤ n1 ∧ iv = .int .i64 (k : Int) ∧ RightB d ∧ InvB d F ∧ BalAt wr w.heap.size d ∧ GivAt wr q F ∧ Below w.heap.size w wr) (fun iv _ => n1 - (intOf iv).toNat)
  case atStart => exact ⟨0, b, fun _ => 0, by omega, rfl, Hr.out, inv_zero b, HA3.out, HG3.out, HB3.out⟩
  case round =>
    obtain ⟨k, d, F, hk, rfl, hrd, hinv, hA, hG, hB⟩ := hrel
    have HA := Lib.hid hA; have HG := Lib.hid hG; have HB := Lib.hid hB; have Hrd := Lib.hid hrd; have Hinv := Lib.hid hinv
    have ldd := ldBal_run hA
    have dc0 := hA.c0
    clear hA hG hB hrd hinv
    by_cases hlt : k < n1
    · obtain ⟨g1, o1, x, rfl, hx1, _, hxw⟩ := S1.out.byteAt (j := k) (by have := HX.out; omega)
      obtain ⟨g2, o2, y, rfl, hy1, _, hyw⟩ := S2.out.byteAt (j := k) (by have := HY.out; omega)
      have hg2 : g2 < w.heap.size := block_lt_of_cell hyw
      have hxc : wr.cell? ⟨g1, o1 + k, none⟩ = some (.int .u8 ((x.toNat : Nat) : Int)) := by rw [HB.out.cell (block_lt_of_cell hxw)]; exact hxw
      have hyc : wr.cell? ⟨g2, o2 + k, none⟩ = some (.int .u8 ((y.toNat : Nat) : Int)) := by rw [HB.out.cell (block_lt_of_cell hyw)]; exact hyw
      have i0 : (0 : Int) ≤ (k : Int) := by omega
      have i1 : (k : Int) < (n1 : Int) := by omega
      have i2 : (k : Int) < (n2 : Int) := by omega
      have hx8 := x.toNat_lt
      have hy8 := y.toNat_lt
      clear hxw
      generalize x.toNat = X at hxc hx8
      generalize y.toNat = Y at hyc hy8 hyw
      have Hyw := Lib.hid hyw
      clear hx1 hy1 hyw
      obtain ⟨M, hM, hM16⟩ : ∃ M : Nat, Int.tmod (Y : Int) 16 = (M : Int) ∧ M < 16 := ⟨Y % 16, by have := Int.tmod_eq_emod_of_nonneg (a := (Y : Int)) (b := 16) (by omega); omega, by omega⟩
      have hwY : IntKind.i64.wrap (Y : Int) = (Y : Int) := IntWalk.i64_in _ ⟨by omega, by omega⟩
      have KG := fun w => Grant_any d X M true w
      obtain ⟨z, hz⟩ : ∃ z, grantB d X M true = z := ⟨_, rfl⟩
      obtain ⟨r, hr⟩ : ∃ r, decide (GivenB d X M true) = r := ⟨_, rfl⟩
      unfold GrantRet at KG
      rw [hz, hr] at KG
      have KG := Lib.hid KG; have Hz := Lib.hid hz; have Hgr := Lib.hid hr
      clear hz hr
      obtain ⟨Wa, hWa⟩ : ∃ Wa, wr.drew.alloc (.cells #[.int .i64 0, .int .i64 0] 23) = Wa := ⟨_, rfl⟩
      have hba : Below wr.heap.size wr Wa := by rw [← hWa]; exact (Below.refl _ _).drew.alloc (Nat.le_refl _) _
      have hx : BalAt Wa wr.heap.size ⟨0, 0⟩ := by rw [← hWa]; exact heap_alloc_new _ _
      have ld0 := ldBal_run (w := wr.drew) HA.out
      have lda := ldBal_run (HA.out.below hba)
      have hyc0 : wr.drew.cell? ⟨g2, o2 + k, none⟩ = some (.int .u8 (Y : Int)) := hyc
      have hyca : Wa.cell? ⟨g2, o2 + k, none⟩ = some (.int .u8 (Y : Int)) := by rw [hba.cell (block_lt_of_cell hyc)]; exact hyc
      have Hba := Lib.hid hba; have Hx := Lib.hid hx
      clear hba hx
      have hyc' := Lib.hid hyc
      go_upto_region 9 with fail
      clear hyc ldd
      go_cut [11, 12] (fun xv kv wx => ∃ a, xv = .pointer (some ⟨a, 0, none⟩) ∧ kv = .bool r ∧ wr.heap.size ≤ a ∧ BalAt wx a z ∧ Below wr.heap.size wr wx)
      case first =>
        go_region_with (first
          | (go_at_call 7; (with_reducible refine (KG.out Wa).mono ?_); (rintro e w2 ⟨rfl, hb2⟩; have hx2 := Hx.out.below hb2; have f0 := row_frozen hx2 0; have f1 := row_frozen hx2 1; have g0 := hx2.c0; have g1 := hx2.c1; have Hb2 := Lib.hid hb2; have Hx2 := Lib.hid hx2; clear hb2 hx2))
          | (go_at_call 7; (with_reducible refine (KG.out wr.drew).mono ?_); rintro e w2 ⟨rfl, hb2⟩; have Hb2 := Lib.hid hb2; clear hb2))
        all_goals
          go_wp2_with fail
          go_meet
          first
          | exact ⟨_, rfl, rfl, Hb2.out.size, BalAt.new w2 z, ((Below.refl _ _).drew.trans Hb2.out).alloc Hb2.out.size _⟩
          | exact ⟨_, rfl, rfl, Nat.le_refl _, (Hx2.out.s0 z.te).s1 z.vo, below_set (below_set (Hba.out.trans (Hb2.out.mono Hba.out.size)) (Nat.le_refl _) 0 _) (Nat.le_refl _) 1 _⟩
      case rest =>
        obtain ⟨a, rfl, rfl, haw, hza, hbx⟩ := hcut
        have hgs : w.heap.size < wr.heap.size := block_lt_of_cell HA.out.c0
        obtain ⟨W5, hW5, hA5, hG5, hB5⟩ : ∃ W5, wc.setRow w.heap.size #[.int .i64 z.te, .int .i64 z.vo] = W5 ∧ BalAt W5 w.heap.size z ∧ GivAt W5 q F ∧ Below w.heap.size w W5 :=
          ⟨_, rfl, (HA.out.below hbx).put z, (HG.out.below hbx).put_else (by have := Hq.out; omega) _, below_row (HB.out.trans (hbx.mono (Nat.le_of_lt hgs))) (Nat.le_refl _) _ (Nat.le_trans HB.out.size hbx.size)⟩
        have hyc5 : W5.cell? ⟨g2, o2 + k, none⟩ = some (.int .u8 (Y : Int)) := by rw [hB5.cell hg2]; exact Hyw.out
        have HAc := Lib.hid (HA.out.below hbx)
        have lda5 := ldBal_run hza
        have HA5 := Lib.hid hA5; have HG5 := Lib.hid hG5; have HB5 := Lib.hid hB5
        have hzr : RightB z := by rw [← Hz.out]; exact right_grant Hrd.out (by omega)
        have hte : ¬ z.te < d.te := by have := grant_te d X M true; have := see_te d X; rw [Hz.out] at *; omega
        have KZ := Lib.hid (Right_any z)
        rw [decide_eq_true hzr] at KZ
        have ld5 := ldBal_run hA5
        have e0 := hA5.c0
        have e1 := hA5.c1
        have Hzr := Lib.hid hzr
        clear hza hA5 hG5 hB5 hzr ld0 lda hyc0 hyca hWa haw hbx
        go_upto_region 11 with (refine wpList_store_row rfl 23 (.tmp 3) (.tmp 60) rfl w.heap.size #[.int .i64 z.te, .int .i64 z.vo] rfl rfl 23 _ HAc.out bal_info rfl (by simp [Value.oneCell']) ?_; (try rw [hW5]))
        clear lda5 HAc hW5
        go_upto_region 13 with (go_at_call 9; refine (KZ.out _).mono ?_; rintro e W6 ⟨rfl, hb6⟩; have HB6 := Lib.hid hb6; clear hb6)
        have HA6 := Lib.hid (HA5.out.below HB6.out); have HG6 := Lib.hid (HG5.out.below HB6.out); have HBW := Lib.hid (HB5.out.trans (HB6.out.mono HB5.out.size))
        clear ld5 e0 e1 hyc5
        cases r with
        | false =>
          have hng : ¬ GivenB d X M true := of_decide_eq_false Hgr.out
          have hzs : z = seeB d X := by rw [← Hz.out]; exact if_neg hng
          have HI := Lib.hid (show InvB z F by rw [hzs]; exact inv_see Hinv.out _)
          clear hng hzs
          go_wp2
          go_roundw
          case rel => exact ⟨k + 1, z, F, by omega, by go_num, Hzr.out, HI.out, HA6.out, HG6.out, HBW.out⟩
          case measure => simp [intOf]; omega
        | true =>
          have hgv : GivenB d X M true := of_decide_eq_true Hgr.out
          have hzs : z = ⟨(X : Int), (M : Int)⟩ := by rw [← Hz.out]; exact if_pos hgv
          subst hzs
          have hold := inv_old Hinv.out hgv
          have HI := Lib.hid (inv_new Hinv.out hgv)
          have hX : X < 300 := by omega
          have cg := HG6.out.cell hX
          have hy6 : W6.cell? ⟨g2, o2 + k, none⟩ = some (.int .u8 (Y : Int)) := by rw [HBW.out.cell hg2]; exact Hyw.out
          have v6 := HA6.out.c1
          simp only at v6
          have fz := HG6.out.thaw X
          have HG7 := Lib.hid (fun n => GivAt.set (w := W6.drewN n) HG6.out hX (1 + (M : Int)))
          have hw1 : IntKind.i64.wrap (1 + (M : Int)) = 1 + (M : Int) := IntWalk.i64_in _ ⟨by omega, by omega⟩
          have hqs : q < W6.heap.size := block_lt_of_cell cg
          have HA7 : Hid (∀ n, BalAt ((W6.drewN n).setCell ⟨q, X, none⟩ (.int .i64 (1 + (M : Int)))) w.heap.size ⟨(X : Int), (M : Int)⟩) := Lib.hid (fun n => BalAt.set_else (w := W6.drewN n) HA6.out (by have := Hq.out; omega) _ _)
          have HB7 : Hid (∀ n, Below w.heap.size w ((W6.drewN n).setCell ⟨q, X, none⟩ (.int .i64 (1 + (M : Int))))) := Lib.hid (fun n => below_set (below_drewN HBW.out n) (Nat.le_of_lt Hq.out) _ _)
          have q9 : ((M : Int) != (M : Int)) = false := by simp
          by_cases hF : F X = 0
          · have q1 : (F X != 0) = false := by simpa using hF
            have HF := Lib.hid hF
            clear hF hold hgv
            have x0 : (0 : Int) ≤ (X : Int) := by omega
            have x1 : (X : Int) < 300 := by omega
            go_upto_region 14 with fail
            go_quiet (fail)
            go_wp2
            go_roundw
            case rel => exact ⟨k + 1, ⟨X, M⟩, _, by omega, by go_num, Hzr.out, HI.out, HA7.out _, HG7.out _, HB7.out _⟩
            case measure => simp [intOf]; omega
          · have q1 : (F X != 0) = true := by simpa using hF
            have e2 : F X = 1 + (M : Int) := by rcases hold with h | h; exact absurd h hF; exact h
            have HF := Lib.hid hF
            have q2 : (F X != 1 + (M : Int)) = false := by simpa using e2
            clear hF hold hgv e2
            have x0 : (0 : Int) ≤ (X : Int) := by omega
            have x1 : (X : Int) < 300 := by omega
            go_upto_region 14 with fail
            go_quiet (fail)
            go_wp2
            go_roundw
            case rel => exact ⟨k + 1, ⟨X, M⟩, _, by omega, by go_num, Hzr.out, HI.out, HA7.out _, HG7.out _, HB7.out _⟩
            case measure => simp [intOf]; omega
    · obtain rfl : k = n1 := by omega
      have hte : d.te + 1 ≤ 9223372036854775807 := by have := Hrd.out; unfold RightB at this; omega
      have KS := Lib.hid (Stand_any d 3 wr (in_right Hrd.out))
      rw [show standB d 3 = ⟨d.te + 1, 3⟩ from if_neg (by omega)] at KS
      simp only at KS
      go_upto_region 18 with (go_at_call 15; refine KS.out.mono ?_; rintro e w4 ⟨rfl, hb4⟩)
      change Code.wp _ _ _ _ (w4.alloc (.cells #[.int .i64 (d.te + 1), .int .i64 3] 23))
      have A5 : BalAt _ _ ⟨d.te + 1, 3⟩ := BalAt.new w4 ⟨d.te + 1, 3⟩
      simp only at A5
      have B5 := hb4.trans ((below_box w4 (.cells #[.int .i64 (d.te + 1), .int .i64 3] 23)).mono hb4.size)
      generalize w4.alloc (.cells #[.int .i64 (d.te + 1), .int .i64 3] 23) = w5 at A5 B5 ⊢
      have s0 := A5.c0
      have s1 := A5.c1
      simp only at s0 s1
      have t0 := (HA.out.below B5).c0
      have HB5 := Lib.hid (HB.out.trans (B5.mono HB.out.size))
      have lt1 : d.te < d.te + 1 := by omega
      clear hb4 B5 A5 ldd dc0
      go_wp2_with (go_at_call 14; refine (awake_any _).mono ?_; rintro e w9 ⟨rfl, hz⟩; have Hz := Lib.hid hz; clear hz)
      go_ret
      exact ⟨rfl, HB5.out.trans (Hz.out.mono HB5.out.size)⟩

set_option maxRecDepth 100000 in
set_option maxHeartbeats 1000000 in
theorem walk (b : Bal) (A1 : Option Addr) (n1 c1 : Nat) (xs : List UInt8) (A2 : Option Addr) (n2 c2 : Nat) (ys : List UInt8) (w : World) (hb : InB b) (hx : xs.length = n1) (nc1 : n1 ≤ c1) (cm1 : c1 ≤ maxLen) (s1 : Seen w A1 (bytesV xs)) (hy : ys.length = n2) (nc2 : n2 ≤ c2) (cm2 : c2 ≤ maxLen) (s2 : Seen w A2 (bytesV ys)) :
    Calls Try.prog 4 #[.agg #[.int .i64 b.te, .int .i64 b.vo], .slice A1 n1 c1, .slice A2 n2 c2] w fun e w' => e = .returned (.bool true) ∧ Below w.heap.size w w' := by
  have B1 := below_box w (.cells #[.int .i64 b.te, .int .i64 b.vo] 23)
  by_cases m1 : n1 ≤ 60
  · by_cases m2 : n1 ≤ n2
    · by_cases m3 : n2 ≤ 100
      · by_cases hr : RightB b
        · exact walkIn b A1 A2 n1 n2 c1 c2 xs ys w hx hy m1 m2 m3 s1 s2 hr
        · have l1 : ¬ (60 : Int) < (n1 : Int) := by omega
          have l2 : ¬ (n2 : Int) < (n1 : Int) := by omega
          have l3 : ¬ (100 : Int) < (n2 : Int) := by omega
          have KR := Lib.hid (Right_any b)
          rw [decide_eq_false hr] at KR
          have A0 : BalAt _ _ b := BalAt.new w b
          clear hx hy s1 s2 hb
          go_enter Try.func4, Try.ntmps4
          go_upto_region 1 with fail
          change Code.wp _ _ _ _ (w.alloc (.cells #[.int .i64 b.te, .int .i64 b.vo] 23))
          generalize w.alloc (.cells #[.int .i64 b.te, .int .i64 b.vo] 23) = w1 at B1 A0 ⊢
          have HB1 := Lib.hid B1
          have ld := ldBal_run A0
          clear B1 A0
          go_wp2_with (first
            | (go_at_call 14; refine (awake_any _).mono ?_; rintro e w9 ⟨rfl, hz⟩; have Hz := Lib.hid hz; clear hz)
            | (go_at_call 9; refine (KR.out _).mono ?_; rintro e w2 ⟨rfl, hb2⟩; have HB2 := Lib.hid (HB1.out.trans (hb2.mono HB1.out.size)); clear hb2 ld))
          go_ret
          exact ⟨rfl, HB2.out.trans (Hz.out.mono HB2.out.size)⟩
      · have l1 : ¬ (60 : Int) < (n1 : Int) := by omega
        have l2 : ¬ (n2 : Int) < (n1 : Int) := by omega
        have l3 : (100 : Int) < (n2 : Int) := by omega
        have HB1 := Lib.hid B1
        clear hx hy s1 s2 hb B1
        go_enter Try.func4, Try.ntmps4
        go_wp2_with (go_at_call 14; refine (awake_any _).mono ?_; rintro e w9 ⟨rfl, hz⟩; have Hz := Lib.hid hz; clear hz)
        go_ret
        exact ⟨rfl, HB1.out.trans (Hz.out.mono HB1.out.size)⟩
    · have l1 : ¬ (60 : Int) < (n1 : Int) := by omega
      have l2 : (n2 : Int) < (n1 : Int) := by omega
      have HB1 := Lib.hid B1
      clear hx hy s1 s2 hb B1
      go_enter Try.func4, Try.ntmps4
      go_wp2_with (go_at_call 14; refine (awake_any _).mono ?_; rintro e w9 ⟨rfl, hz⟩; have Hz := Lib.hid hz; clear hz)
      go_ret
      exact ⟨rfl, HB1.out.trans (Hz.out.mono HB1.out.size)⟩
  · have l1 : (60 : Int) < (n1 : Int) := by omega
    have HB1 := Lib.hid B1
    clear hx hy s1 s2 hb B1
    go_enter Try.func4, Try.ntmps4
    go_wp2_with (go_at_call 14; refine (awake_any _).mono ?_; rintro e w9 ⟨rfl, hz⟩; have Hz := Lib.hid hz; clear hz)
    go_ret
    exact ⟨rfl, HB1.out.trans (Hz.out.mono HB1.out.size)⟩

/-! ### THE ROW -/
theorem own : ownKnob Try.prog.godebug = none := by kernel_rfl

set_option maxRecDepth 100000 in
theorem lifted (os : Os) (started : os.Started) (H : Type) (enc : TypeId × Value → H) :
    ReturnsInHanded {} Try.checked os 4 .any (Rows.ballotOneSpec.pre6 enc Try.prog Try.f4 Rows.ballotOneRow.domain false) (Rows.ballotOneSpec.post enc Try.prog Try.f4 false true false false) := by
  refine returnsInHanded_of_change (C := Try.checked) own started (by kernel_rfl) Try.func4
    (ChangeSpec.witness6 (enc := enc) (C := Try.checked) false ⟨#[], #[.agg #[.int .i64 0, .int .i64 0], .slice none 0 0, .slice none 0 0], []⟩ 8 (by kernel_rfl) (by kernel_rfl) (by kernel_rfl) (by kernel_rfl)) ?_
  intro W base args ds gs before hval0 hW hcnd _
  have hval : ∀ (j : Nat) t v, Try.f4.params[j]? = some t → args[j]? = some v → Value.okWide Try.prog W .any base t v := hval0
  have hW' := hW
  obtain ⟨p, q, hA0, hV, rfl, hfz, hnd⟩ := hW
  have hA : DataW.TrodAll enc Try.prog W 0 (fun _ => true) true Try.f4.params.toList args.toList ds p := hA0
  rw [Try.params4] at hA hval
  obtain ⟨v0, vs0, d0, ds0, p0, q0, hargs, rfl, rfl, h0, r0⟩ := trodAll_cons hA
  obtain ⟨v1, vs1, d1, ds1, p1, q1, rfl, rfl, rfl, h1, r1⟩ := trodAll_cons r0
  obtain ⟨v2, vs2, d2, ds2, p2, q2, rfl, rfl, rfl, h2, r2⟩ := trodAll_cons r1
  obtain ⟨rfl, rfl, rfl⟩ := trodAll_nil r2
  obtain rfl : args = #[v0, v1, v2] := by cases args; simp_all
  obtain ⟨rfl, rfl⟩ := trodVars_none hV
  obtain ⟨b0_, rfl, hb0⟩ := open_bal Try.underlying23 rfl rfl rfl rfl Try.underlying3 Try.underlying3 (by kernel_rfl) (by kernel_rfl) (by kernel_rfl) (hval 0 23 v0 rfl rfl) h0
  obtain ⟨A1, n1, c1, bs1, rfl, hn1, hnc1, hcm1, hsee1⟩ := open_bytes Try.underlying31 Try.underlying5 (by kernel_rfl) (hval 1 31 v1 rfl rfl) h1
  obtain ⟨A2, n2, c2, bs2, rfl, hn2, hnc2, hcm2, hsee2⟩ := open_bytes Try.underlying31 Try.underlying5 (by kernel_rfl) (hval 2 31 v2 rfl rfl) h2
  refine (walk b0_ A1 n1 c1 bs1 A2 n2 c2 bs2 W hb0 hn1 hnc1 hcm1 hsee1 hn2 hnc2 hcm2 hsee2).mono fun e W' ⟨he, hg⟩ => ?_
  subst he
  exact ⟨_, rfl, law_post hW' rfl (by kernel_rfl) (by kernel_rfl) (by kernel_rfl) Try.underlying4 rfl rfl rfl hg⟩

theorem over : Rows.ballotOneRow.holds Try.pinned (OpenSpec.ofChange Rows.ballotOneSpec) :=
  OpenClaim.holds_of_wide 4 Try.f4 rfl rfl rfl rfl rfl rfl rfl ⟨rfl, rfl, rfl, rfl, rfl⟩ rfl rfl rfl rfl rfl (by kernel_rfl) Try.func4 (by kernel_rfl)
    (of_decide_eq_true (by kernel_rfl)) (by unfold Func.isWrapper; first | (rw [if_pos (by decide +kernel)]; kernel_rfl) | (rw [if_neg (by decide +kernel)]; exact ⟨rfl, rfl⟩))
    (fun os started H enc _ => lifted os started H enc)

theorem proved : Rows.BallotOneSaid :=
  over
#print axioms proved

end Go.Proofs.Ytaficaapfccikaa.BallotOne
