/-
  VolumeCommands: a command of numbers from 0 on comes back out of its bytes; other bytes are refused, or are just those of a command; it holds for every input (of up to 100 bytes, else the example), and the arguments stay as they were. No condition. (Written by gen_volcmds.py.)
-/
import Derived.Test.YtmlbgkackemioaaVolEq
import Derived.Test.YtmlbgkackemioaaSame
import Derived.Test.YtmlbgkackemioaaLaw
import Derived.Test.YtmlbgkackemioaaRows
import Derived.Test.YtmlbgkackemioaaChecked
import Derived.Deep.DeepCutAuto
namespace Go.Proofs.Ytmlbgkackemioaa.VolumeCommands
open Go.ChangeShapes Go.WideShapes Go.ChangeAt Go.RowKit
set_option linter.unusedVariables false
set_option linter.unusedSimpArgs false

theorem bytes_inj {x y : Cmd} (hx : NonN x) (hy : NonN y) (h : bytesC x = bytesC y) : x = y := by
  obtain ⟨a1, b1, e1, h1⟩ : ∃ a b e, rdM (bytesC y) 0 = (a, b, e) := ⟨_, _, _, rfl⟩
  obtain ⟨a2, b2, e2, h2⟩ : ∃ a b e, rdM b1 e1 = (a, b, e) := ⟨_, _, _, rfl⟩
  obtain ⟨a3, b3, e3, h3⟩ : ∃ a b e, rdM b2 e2 = (a, b, e) := ⟨_, _, _, rfl⟩
  obtain ⟨a4, b4, e4, h4⟩ : ∃ a b e, rdM b3 e3 = (a, b, e) := ⟨_, _, _, rfl⟩
  obtain ⟨a5, b5, e5, h5⟩ : ∃ a b e, rdM b4 e4 = (a, b, e) := ⟨_, _, _, rfl⟩
  obtain ⟨a6, b6, e6, h6⟩ : ∃ a b e, rdM b5 e5 = (a, b, e) := ⟨_, _, _, rfl⟩
  obtain ⟨a7, b7, e7, h7⟩ : ∃ a b e, rdM b6 e6 = (a, b, e) := ⟨_, _, _, rfl⟩
  obtain ⟨a8, b8, e8, h8⟩ : ∃ a b e, rdM b7 e7 = (a, b, e) := ⟨_, _, _, rfl⟩
  exact (read_of h1 h2 h3 h4 h5 h6 h7 h8 hx h).2.trans (read_of h1 h2 h3 h4 h5 h6 h7 h8 hy rfl).2.symm
theorem read_yes (A : Option Addr) (n c : Nat) (bs : List UInt8) (x : Cmd) (w : World) (hn : bs.length = n) (hl : n ≤ 1000000) (hs : Seen w A (bytesV bs)) (hx : NonN x) (hb : bytesC x = bs) :
    Calls Try.prog 18 #[.slice A n c] w fun e w' => e = .returned (.tuple #[cmdA x, .bool true]) ∧ Below w.heap.size w w' := by
  refine (VRead A n c bs w hn hl hs).mono ?_
  rintro e w' ⟨⟨y, k1, k2, k3⟩ | ⟨k1, _⟩, hbl⟩
  · obtain rfl := bytes_inj k1 hx (k2.trans hb.symm)
    exact ⟨k3, hbl⟩
  · exact absurd hb (k1 x hx)
theorem read_no (A : Option Addr) (n c : Nat) (bs : List UInt8) (w : World) (hn : bs.length = n) (hl : n ≤ 1000000) (hs : Seen w A (bytesV bs)) (hno : ¬ ∃ x, NonN x ∧ bytesC x = bs) :
    Calls Try.prog 18 #[.slice A n c] w fun e w' => e = .returned (.tuple #[cmdA cmd0, .bool false]) ∧ Below w.heap.size w w' := by
  refine (VRead A n c bs w hn hl hs).mono ?_
  rintro e w' ⟨⟨y, k1, k2, k3⟩ | ⟨k1, k2⟩, hbl⟩
  · exact absurd ⟨y, k1, k2⟩ hno
  · exact ⟨k2, hbl⟩
/-- what comes back of a command -/
def posC (c : Cmd) : Cmd := ⟨c.k.toNat, c.a.toNat, c.b.toNat, c.c.toNat, ⟨c.p.re.toNat, c.p.we.toNat, c.p.li.toNat, c.p.bu.toNat⟩⟩
theorem posC_bytes (c : Cmd) : bytesC (posC c) = bytesC c := by
  rw [bytesC_eq, bytesC_eq]
  simp only [posC, Int.toNat_natCast]
theorem posC_non {c : Cmd} (h : CmdIn c) : NonN (posC c) := by
  obtain ⟨h1, h2, h3, h4, h5, h6, h7, h8⟩ := h
  unfold In64 at *
  exact NonN.of (by omega) (by omega) (by omega) (by omega) (by omega) (by omega) (by omega) (by omega)
theorem non_in {c : Cmd} (h : NonN c) : CmdIn c := by
  have f := fun x hx => h x hx
  simp only [numsC, numsP, List.cons_append, List.nil_append, List.mem_cons, List.not_mem_nil, or_false] at f
  have g : ∀ x, (0 ≤ x ∧ x ≤ 9223372036854775807) → In64 x := fun x h => by unfold In64; omega
  exact ⟨g _ (f _ (by simp)), g _ (f _ (by simp)), g _ (f _ (by simp)), g _ (f _ (by simp)), g _ (f _ (by simp)), g _ (f _ (by simp)), g _ (f _ (by simp)), g _ (f _ (by simp))⟩
def rightC (c : Cmd) : Bool := decide (0 ≤ c.k) && decide (0 ≤ c.a) && decide (0 ≤ c.b) && decide (0 ≤ c.c) && decide (0 ≤ c.p.re) && decide (0 ≤ c.p.we) && decide (0 ≤ c.p.li) && decide (0 ≤ c.p.bu)
theorem rightC_no {c : Cmd} (h : c.k < 0 ∨ c.a < 0 ∨ c.b < 0 ∨ c.c < 0 ∨ c.p.re < 0 ∨ c.p.we < 0 ∨ c.p.li < 0 ∨ c.p.bu < 0) : rightC c = false := by
  rw [← Bool.not_eq_true]
  simp only [rightC, decide_eq_true_eq, Bool.and_eq_true]
  omega
theorem rightC_yes {c : Cmd} (h : 0 ≤ c.k ∧ 0 ≤ c.a ∧ 0 ≤ c.b ∧ 0 ≤ c.c ∧ 0 ≤ c.p.re ∧ 0 ≤ c.p.we ∧ 0 ≤ c.p.li ∧ 0 ≤ c.p.bu) : rightC c = true := by
  simp only [rightC, decide_eq_true_eq, Bool.and_eq_true]
  omega
theorem posC_eq (c : Cmd) : decide (posC c = c) = rightC c := by
  obtain ⟨k, a, b, c, ⟨re, we, li, bu⟩⟩ := c
  rw [Bool.eq_iff_iff]
  simp only [posC, rightC, decide_eq_true_eq, Bool.and_eq_true, Cmd.mk.injEq, Pol.mk.injEq]
  omega
attribute [local go_sem ↓] ldCmd_eq
attribute [local go_sem ↓] stCmd_eq
attribute [local go_sem ↓] bdCmd_eq
set_option maxRecDepth 100000 in
set_option maxHeartbeats 4000000 in
theorem walkIn (c : Cmd) (A : Option Addr) (n cp : Nat) (bs : List UInt8) (w : World) (hc : CmdIn c) (hn : bs.length = n) (hl : n ≤ 100) (hs : Seen w A (bytesV bs)) :
    Calls Try.prog 4 #[cmdA c, .slice A n cp] w fun e w' => e = .returned (.bool true) ∧ Below w.heap.size w w' := by
  have l1 : ¬ (100 : Int) < (n : Int) := by omega
  unfold cmdA
  obtain ⟨w1, hw1, hb1, hr1⟩ := cmd_box w c
  have hld := ldCmd_run hr1
  have KP := Lib.hid (VPut c w1 hc)
  have HS := Lib.hid hs; have HN := Lib.hid hn; have Hc := Lib.hid hc; have Hb1 := Lib.hid hb1; have Hr1 := Lib.hid hr1; have Hl := Lib.hid hl
  clear hc hn hs hb1 hr1 hl
  go_enter Try.func4, Try.ntmps4
  go_wp2_with fail
  refine KP.out.mono ?_
  rintro e w2 ⟨A2, c2, rfl, hown2, hb2⟩
  have hlen2 : (bytesC c).length ≤ 1000000 := by
    have h := putB_length (numsC c ++ numsP c.p) (fun x hx => by
      have hi := Hc.out
      have hp := hi.hp
      unfold InP at hp
      simp only [numsC, numsP, List.cons_append, List.nil_append, List.mem_cons, List.not_mem_nil, or_false] at hx
      rcases hx with rfl | rfl | rfl | rfl | rfl | rfl | rfl | rfl
      · exact hi.hk
      · exact hi.ha
      · exact hi.hb
      · exact hi.hc
      · exact hp.1
      · exact hp.2.1
      · exact hp.2.2.1
      · exact hp.2.2.2)
    have h2 : (numsC c ++ numsP c.p).length = 8 := rfl
    rw [h2] at h
    show (putB _).length ≤ _
    omega
  have KR := Lib.hid (read_yes A2 _ c2 (bytesC c) (posC c) w2 (bytes_length _).symm (by rw [bytes_length]; exact hlen2) (.of_own hown2) (posC_non Hc.out) (posC_bytes c))
  have Hb2 := Lib.hid (Hb1.out.trans (hb2.mono Hb1.out.size)); have Hr2 := Lib.hid (row_below Hr1.out hb2)
  clear hown2 hb2 hlen2 hld
  go_wp2_with fail
  refine KR.out.mono ?_
  rintro e w3 ⟨rfl, hb3⟩
  obtain ⟨w4, hw4, hb4, hr4⟩ : ∃ w4, w3.alloc (.cells #[.int .i64 0, .int .i64 0, .int .i64 0, .int .i64 0, .int .i64 0, .int .i64 0, .int .i64 0, .int .i64 0] 36) = w4 ∧ Below w3.heap.size w3 w4 ∧ w4.heap[w3.heap.size]? = some (.cells #[.int .i64 0, .int .i64 0, .int .i64 0, .int .i64 0, .int .i64 0, .int .i64 0, .int .i64 0, .int .i64 0] 36 (0, 0)) := ⟨_, rfl, below_box _ _, heap_alloc_new _ _⟩
  obtain ⟨w5, hst5, hr5, ht5⟩ := stCmd_run hr4 rfl (posC c)
  have hb35 : Below w3.heap.size w3 w5 := hb4.trans (ht5.below (fun k e => by omega) hb4.size)
  have hb25 := hb3.trans (hb35.mono hb3.size)
  have hx5 := row_below Hr2.out hb25
  have c0 : w5.cell? ⟨w.heap.size, 0, none⟩ = some (.int .i64 c.k) := row_cell hx5 0
  have c1 : w5.cell? ⟨w.heap.size, 1, none⟩ = some (.int .i64 c.a) := row_cell hx5 1
  have c2 : w5.cell? ⟨w.heap.size, 2, none⟩ = some (.int .i64 c.b) := row_cell hx5 2
  have c3 : w5.cell? ⟨w.heap.size, 3, none⟩ = some (.int .i64 c.c) := row_cell hx5 3
  have c4 : w5.cell? ⟨w.heap.size, 4, none⟩ = some (.int .i64 c.p.re) := row_cell hx5 4
  have c5 : w5.cell? ⟨w.heap.size, 5, none⟩ = some (.int .i64 c.p.we) := row_cell hx5 5
  have c6 : w5.cell? ⟨w.heap.size, 6, none⟩ = some (.int .i64 c.p.li) := row_cell hx5 6
  have c7 : w5.cell? ⟨w.heap.size, 7, none⟩ = some (.int .i64 c.p.bu) := row_cell hx5 7
  have Hb5 := Lib.hid (Hb2.out.trans (hb25.mono Hb2.out.size)); have Hx5 := Lib.hid hx5; have Hr5 := Lib.hid hr5
  clear hb3 hb4 hr4 ht5 hb35 hb25 hx5 hr5
  go_upto_region 4 with fail
  go_cut [7] (fun v wx => v = .bool (rightC c) ∧ w5 = wx)
  case first =>
    by_cases n0 : 0 ≤ c.k
    case neg =>
      go_wp2
      go_meet
      exact ⟨by rw [rightC_no (by omega)], rfl⟩
    by_cases n1 : 0 ≤ c.a
    case neg =>
      go_wp2
      go_meet
      exact ⟨by rw [rightC_no (by omega)], rfl⟩
    by_cases n2 : 0 ≤ c.b
    case neg =>
      go_wp2
      go_meet
      exact ⟨by rw [rightC_no (by omega)], rfl⟩
    by_cases n3 : 0 ≤ c.c
    case neg =>
      go_wp2
      go_meet
      exact ⟨by rw [rightC_no (by omega)], rfl⟩
    by_cases n4 : 0 ≤ c.p.re
    case neg =>
      go_wp2
      go_meet
      exact ⟨by rw [rightC_no (by omega)], rfl⟩
    by_cases n5 : 0 ≤ c.p.we
    case neg =>
      go_wp2
      go_meet
      exact ⟨by rw [rightC_no (by omega)], rfl⟩
    by_cases n6 : 0 ≤ c.p.li
    case neg =>
      go_wp2
      go_meet
      exact ⟨by rw [rightC_no (by omega)], rfl⟩
    by_cases n7 : 0 ≤ c.p.bu
    case neg =>
      go_wp2
      go_meet
      exact ⟨by rw [rightC_no (by omega)], rfl⟩
    go_wp2
    go_meet
    exact ⟨by rw [rightC_yes (by omega)], rfl⟩
  case rest =>
    obtain ⟨rfl, rfl⟩ := hcut
    have hld1 := ldCmd_run Hx5.out
    have hld2 := ldCmd_run (c := posC c) Hr5.out
    have hq1 := fun W => eqCmd_run (posC c) c W
    have hg1 := fun a b W => eqGuard_cmd a b (posC c) c W
    rw [posC_eq] at hq1
    obtain ⟨rb, hrb⟩ : ∃ rb, rightC c = rb := ⟨_, rfl⟩
    rw [hrb] at hq1
    rw [hrb]
    have hbb : (rb != rb) = false := by simp
    clear hrb c0 c1 c2 c3 c4 c5 c6 c7
    have KW := Lib.hid (fun W => VAwake W)
    by_cases hex : ∃ x, NonN x ∧ bytesC x = bs
    · obtain ⟨y, hy, hyb⟩ := hex
      have KR5 := Lib.hid (read_yes A n cp bs y w5 HN.out (by have := Hl.out; omega) (HS.out.below Hb5.out) hy hyb)
      have Hy := Lib.hid hy; have Hyb := Lib.hid hyb
      clear hy hyb
      go_upto_region 7 with fail
      go_wp2_with fail
      refine KR5.out.mono ?_
      rintro e w6 ⟨rfl, hb6⟩
      obtain ⟨w7, hw7, hb7, hr7⟩ : ∃ w7, w6.alloc (.cells #[.int .i64 0, .int .i64 0, .int .i64 0, .int .i64 0, .int .i64 0, .int .i64 0, .int .i64 0, .int .i64 0] 36) = w7 ∧ Below w6.heap.size w6 w7 ∧ w7.heap[w6.heap.size]? = some (.cells #[.int .i64 0, .int .i64 0, .int .i64 0, .int .i64 0, .int .i64 0, .int .i64 0, .int .i64 0, .int .i64 0] 36 (0, 0)) := ⟨_, rfl, below_box _ _, heap_alloc_new _ _⟩
      obtain ⟨w8, hst8, hr8, ht8⟩ := stCmd_run hr7 rfl y
      have hb8 := hb6.trans ((hb7.trans (ht8.below (fun k e => by omega) hb7.size)).mono hb6.size)
      have hld8 := ldCmd_run (c := y) hr8
      have KP8 := Lib.hid (VPut y w8 (non_in Hy.out))
      have Hb8 := Lib.hid (Hb5.out.trans (hb8.mono Hb5.out.size))
      clear hb6 hb7 hr7 ht8 hb8 hr8
      go_wp2_with fail
      refine KP8.out.mono ?_
      rintro e w9 ⟨A9, c9, rfl, hown9, hb9⟩
      have KS := Lib.hid (Same_any A9 A _ n c9 cp (bytesC y) bs w9 (bytes_length _).symm HN.out (.of_own hown9) (HS.out.below (Hb8.out.trans (hb9.mono Hb8.out.size))) (by rw [bytes_length, Hyb.out, HN.out]; have := Hl.out; omega))
      rw [decide_eq_true Hyb.out] at KS
      have Hb9 := Lib.hid (Hb8.out.trans (hb9.mono Hb8.out.size))
      clear hown9 hb9
      go_wp2_with (first
        | (go_at_call 20; refine KS.out.mono ?_; rintro e w10 ⟨rfl, hb10⟩; have Hb10 := Lib.hid (Hb9.out.trans (hb10.mono Hb9.out.size)); clear hb10)
        | (go_at_call 8; refine (KW.out _).mono ?_; rintro e w11 ⟨rfl, hb11⟩; have Hb11 := Lib.hid (Hb10.out.trans (hb11.mono Hb10.out.size)); clear hb11))
      go_ret
      exact ⟨rfl, Hb11.out⟩
    · have KR5 := Lib.hid (read_no A n cp bs w5 HN.out (by have := Hl.out; omega) (HS.out.below Hb5.out) hex)
      have hbd0 := bdC_run0
      have hq2 := fun W => eqCmd_run cmd0 cmd0 W
      have hg2 := fun a b W => eqGuard_cmd a b cmd0 cmd0 W
      rw [decide_eq_true (rfl : cmd0 = cmd0)] at hq2
      clear hex
      go_upto_region 7 with fail
      go_wp2_with fail
      refine KR5.out.mono ?_
      rintro e w6 ⟨rfl, hb6⟩
      obtain ⟨w7, hw7, hb7, hr7⟩ : ∃ w7, w6.alloc (.cells #[.int .i64 0, .int .i64 0, .int .i64 0, .int .i64 0, .int .i64 0, .int .i64 0, .int .i64 0, .int .i64 0] 36) = w7 ∧ Below w6.heap.size w6 w7 ∧ w7.heap[w6.heap.size]? = some (.cells #[.int .i64 0, .int .i64 0, .int .i64 0, .int .i64 0, .int .i64 0, .int .i64 0, .int .i64 0, .int .i64 0] 36 (0, 0)) := ⟨_, rfl, below_box _ _, heap_alloc_new _ _⟩
      obtain ⟨w8, hst8, hr8, ht8⟩ := stCmd_run hr7 rfl cmd0
      have hb8 := hb6.trans ((hb7.trans (ht8.below (fun k e => by omega) hb7.size)).mono hb6.size)
      have hld8 := ldCmd_run (c := cmd0) hr8
      have Hb8 := Lib.hid (Hb5.out.trans (hb8.mono Hb5.out.size))
      clear hb6 hb7 hr7 ht8 hb8 hr8
      go_wp2_with (go_at_call 8; refine (KW.out _).mono ?_; rintro e w11 ⟨rfl, hb11⟩; have Hb11 := Lib.hid (Hb8.out.trans (hb11.mono Hb8.out.size)); clear hb11)
      go_ret
      exact ⟨rfl, Hb11.out⟩
set_option maxRecDepth 100000 in
set_option maxHeartbeats 1000000 in
theorem walkOut (c : Cmd) (A : Option Addr) (n cp : Nat) (w : World) (hl : ¬ n ≤ 100) :
    Calls Try.prog 4 #[cmdA c, .slice A n cp] w fun e w' => e = .returned (.bool true) ∧ Below w.heap.size w w' := by
  have l1 : (100 : Int) < (n : Int) := by omega
  unfold cmdA
  obtain ⟨w1, hw1, hb1, hr1⟩ := cmd_box w c
  have KW := Lib.hid (VAwake w1)
  have Hb1 := Lib.hid hb1
  clear hb1 hr1 hl
  go_enter Try.func4, Try.ntmps4
  go_wp2_with (go_at_call 8; refine KW.out.mono ?_; rintro e w2 ⟨rfl, hb2⟩; have Hb2 := Lib.hid (Hb1.out.trans (hb2.mono Hb1.out.size)); clear hb2)
  go_ret
  exact ⟨rfl, Hb2.out⟩
theorem walk (c : Cmd) (A : Option Addr) (n cp : Nat) (bs : List UInt8) (w : World) (hc : CmdIn c) (hn : bs.length = n) (hnc : n ≤ cp) (hcm : cp ≤ maxLen) (hs : Seen w A (bytesV bs)) :
    Calls Try.prog 4 #[.agg #[.int .i64 c.k, .int .i64 c.a, .int .i64 c.b, .int .i64 c.c, .int .i64 c.p.re, .int .i64 c.p.we, .int .i64 c.p.li, .int .i64 c.p.bu], .slice A n cp] w fun e w' => e = .returned (.bool true) ∧ Below w.heap.size w w' := by
  by_cases hl : n ≤ 100
  · exact walkIn c A n cp bs w hc hn hl hs
  · exact walkOut c A n cp w hl
/-! ### THE ROW -/
theorem own : ownKnob Try.prog.godebug = none := by kernel_rfl

set_option maxRecDepth 100000 in
theorem lifted (os : Os) (started : os.Started) (H : Type) (enc : TypeId × Value → H) :
    ReturnsInHanded {} Try.checked os 4 .any (Rows.volumeCommandsSpec.pre6 enc Try.prog Try.f4 Rows.volumeCommandsRow.domain false) (Rows.volumeCommandsSpec.post enc Try.prog Try.f4 false true false false) := by
  refine returnsInHanded_of_change (C := Try.checked) own started (by kernel_rfl) Try.func4
    (ChangeSpec.witness6 (enc := enc) (C := Try.checked) false ⟨#[], #[.agg #[.int .i64 0, .int .i64 0, .int .i64 0, .int .i64 0, .int .i64 0, .int .i64 0, .int .i64 0, .int .i64 0], .slice none 0 0], []⟩ 8 (by kernel_rfl) (by kernel_rfl) (by kernel_rfl) (by kernel_rfl)) ?_
  intro W base args ds gs before hval0 hW hcnd _
  have hval : ∀ (j : Nat) t v, Try.f4.params[j]? = some t → args[j]? = some v → Value.okWide Try.prog W .any base t v := hval0
  have hW' := hW
  obtain ⟨p, q, hA0, hV, rfl, hfz, hnd⟩ := hW
  have hA : DataW.TrodAll enc Try.prog W 0 (fun _ => true) true Try.f4.params.toList args.toList ds p := hA0
  rw [Try.params4] at hA hval
  obtain ⟨v0, vs0, d0, ds0, p0, q0, hargs, rfl, rfl, h0, r0⟩ := trodAll_cons hA
  obtain ⟨v1, vs1, d1, ds1, p1, q1, rfl, rfl, rfl, h1, r1⟩ := trodAll_cons r0
  obtain ⟨rfl, rfl, rfl⟩ := trodAll_nil r1
  obtain rfl : args = #[v0, v1] := by cases args; simp_all
  obtain ⟨rfl, rfl⟩ := trodVars_none hV
  obtain ⟨c0_, rfl, hc0_⟩ := open_cmd Try.underlying36 rfl Try.underlying29 rfl rfl ⟨rfl, rfl, rfl, rfl, rfl⟩ ⟨rfl, rfl, rfl, rfl⟩ Try.underlying3 (by kernel_rfl) ⟨rfl, rfl, rfl, rfl⟩ ⟨rfl, rfl, rfl, rfl⟩ (by kernel_rfl) (by kernel_rfl) (hval 0 36 v0 rfl rfl) h0
  obtain ⟨A1, n1, c1, bs1, rfl, hn1, hnc1, hcm1, hsee1⟩ := open_bytes Try.underlying52 Try.underlying5 (by kernel_rfl) (hval 1 52 v1 rfl rfl) h1
  refine (walk c0_ A1 n1 c1 bs1 W hc0_ hn1 hnc1 hcm1 hsee1).mono fun e W' ⟨he, hg⟩ => ?_
  subst he
  exact ⟨_, rfl, law_post hW' rfl (by kernel_rfl) (by kernel_rfl) (by kernel_rfl) Try.underlying4 rfl rfl rfl hg⟩

theorem over : Rows.volumeCommandsRow.holds Try.pinned (OpenSpec.ofChange Rows.volumeCommandsSpec) :=
  OpenClaim.holds_of_wide 4 Try.f4 rfl rfl rfl rfl rfl rfl rfl ⟨rfl, rfl, rfl, rfl, rfl⟩ rfl rfl rfl rfl rfl (by kernel_rfl) Try.func4 (by kernel_rfl)
    (of_decide_eq_true (by kernel_rfl)) (by unfold Func.isWrapper; first | (rw [if_pos (by decide +kernel)]; kernel_rfl) | (rw [if_neg (by decide +kernel)]; exact ⟨rfl, rfl⟩))
    (fun os started H enc _ => lifted os started H enc)

theorem proved : Rows.VolumeCommandsSaid :=
  over
#print axioms proved

end Go.Proofs.Ytmlbgkackemioaa.VolumeCommands
