/-
  PolicyLoads: a greater reservation is no lesser load, and what a second has room for admits it; it holds for every input. No condition.
-/
import Derived.Test.YtocigbknfhggfaaPolA
import Derived.Test.YtocigbknfhggfaaLaw
import Derived.Test.YtocigbknfhggfaaRows
import Derived.Test.YtocigbknfhggfaaChecked
import Derived.StillTailTactics
import Derived.Deep.DeepCutAuto
import Derived.Deep.RegionHeld3
namespace Go.Proofs.Ytocigbknfhggfaa.PolicyLoads
open Go.ChangeShapes Go.WideShapes Go.ChangeAt Go.RowKit
set_option linter.unusedVariables false

theorem space_down {a b : Int} (h1 : 1 ≤ a) (h2 : a ≤ b) : 65536000 / b ≤ 65536000 / a := by
  have q2 : 65536000 / b * b ≤ 65536000 := Int.ediv_mul_le _ (by omega)
  have q0 : 0 ≤ 65536000 / b := Int.ediv_nonneg (by omega) (by omega)
  have q3 : 65536000 / b * a ≤ 65536000 / b * b := Int.mul_le_mul_of_nonneg_left h2 q0
  exact Int.le_ediv_of_mul_le (by omega) (by omega)
theorem share_down {a b : Int} (h1 : 1 ≤ a) (h2 : a ≤ b) : 1099511627775 / b ≤ 1099511627775 / a := by
  have q2 : 1099511627775 / b * b ≤ 1099511627775 := Int.ediv_mul_le _ (by omega)
  have q0 : 0 ≤ 1099511627775 / b := Int.ediv_nonneg (by omega) (by omega)
  have q3 : 1099511627775 / b * a ≤ 1099511627775 / b * b := Int.mul_le_mul_of_nonneg_left h2 q0
  exact Int.le_ediv_of_mul_le (by omega) (by omega)
theorem space_pos {b : Int} (h1 : 1 ≤ b) (h2 : b ≤ 1048576) : 1 ≤ 65536000 / b := by
  exact Int.le_ediv_of_mul_le (by omega) (by omega)
def sh (a : Int) : Int := shareF (spaceF a)
theorem sh_up {a b : Int} (h0 : 0 ≤ a) (h1 : a ≤ b) (h2 : b ≤ 1048576) : sh a ≤ sh b := by
  by_cases ha : a = 0
  · subst ha
    have : sh 0 = 0 := by decide
    rw [this]
    exact (shareF_bd _).1
  · have e1 : spaceF a = 65536000 / a := if_pos ⟨by omega, by omega⟩
    have e2 : spaceF b = 65536000 / b := if_pos ⟨by omega, by omega⟩
    have p1 := space_pos (b := a) (by omega) (by omega)
    have p2 := space_pos (b := b) (by omega) h2
    have d := space_down (a := a) (b := b) (by omega) h1
    unfold sh shareF
    rw [e1, e2, if_pos p1, if_pos p2]
    have := share_down p2 d
    omega
theorem room {b n : Int} (h0 : 0 ≤ b) (h2 : b ≤ 1048576) (hn : 1 ≤ n) (h : sh b ≤ n * 16777216) : b ≤ 1000 * n := by
  by_cases hb : b = 0
  · omega
  · have e2 : spaceF b = 65536000 / b := if_pos ⟨by omega, by omega⟩
    have p2 := space_pos (b := b) (by omega) h2
    unfold sh shareF at h
    rw [e2, if_pos p2] at h
    obtain ⟨s, hs⟩ : ∃ s, 65536000 / b = s := ⟨_, rfl⟩
    have q2 : 65536000 / b * b ≤ 65536000 := Int.ediv_mul_le _ (by omega)
    rw [hs] at h p2 q2
    have q3 : 1099511627775 < (1099511627775 / s + 1) * s := Int.lt_ediv_add_one_mul_self _ (by omega)
    have q4 : (1099511627775 / s + 1) * s ≤ (n * 16777216) * s := Int.mul_le_mul_of_nonneg_right h (by omega)
    have q5 : (n * 16777216) * s = (s * n) * 16777216 := by rw [Int.mul_right_comm, Int.mul_comm n s]
    have q6 : 65536 ≤ s * n := by omega
    by_cases hc : b ≤ 1000 * n
    · exact hc
    · have q7 : s * (1000 * n + 1) ≤ s * b := Int.mul_le_mul_of_nonneg_left (by omega) (by omega)
      have q8 : s * (1000 * n + 1) = 1000 * (s * n) + s := by rw [Int.mul_add, Int.mul_one, Int.mul_left_comm]
      omega

theorem tr {a W w3 : World} (h : Below a.heap.size a W) (k : Below W.heap.size W w3) : Below a.heap.size a w3 := h.trans (k.mono h.size)
theorem size_alloc (w : World) (o : Obj) : (w.alloc o).heap.size = w.heap.size + 1 := Array.size_push _
theorem b1 (w1 : World) (X : Obj) : Below w1.heap.size w1 (w1.alloc X).drew := (below_box w1 X).drew
theorem b2 (w1 : World) (X Y : Obj) : Below w1.heap.size w1 ((w1.alloc X).alloc Y).drew := ((below_box w1 X).alloc (below_box w1 X).size Y).drew
theorem row1 (w1 : World) (X : Obj) : (w1.alloc X).drew.heap[w1.heap.size]? = some X := heap_alloc_new w1 X
theorem row2 (w1 : World) (X Y : Obj) : ((w1.alloc X).alloc Y).drew.heap[w1.heap.size]? = some X := row_below (w := w1.alloc X) (w' := (w1.alloc X).alloc Y) (heap_alloc_new w1 X) (below_box _ _)
theorem row3 (w1 : World) (X Y : Obj) : ((w1.alloc X).alloc Y).drew.heap[w1.heap.size + 1]? = some Y := by
  have h := heap_alloc_new (w1.alloc X) Y
  rwa [size_alloc] at h
theorem load_one {x z : Int} (hp : InP ⟨x, 1, 0, 0⟩) (hz : loadP [⟨x, 1, 0, 0⟩] = z) (g : Nat) (W : World) (h : W.heap[g]? = some (.cells #[.int .i64 x, .int .i64 1, .int .i64 0, .int .i64 0] 26 (0, 0))) :
    Calls Try.prog 10 #[.slice (some ⟨g, 0, none⟩) 1 1] W fun e w' => e = .returned (.int .i64 z) ∧ Below W.heap.size W w' := by
  rw [← hz]
  exact Load_any _ 1 1 [⟨x, 1, 0, 0⟩] W rfl (by omega) (pols_one h hp)
attribute [local go_sem ↓] ldPol_eq
set_option maxRecDepth 100000 in
set_option maxHeartbeats 4000000 in
theorem walkIn (a b c : Int) (w : World) (ha : 0 ≤ a ∧ a ≤ 4294967295) (hb : 0 ≤ b ∧ b ≤ 4294967295) (hc : 0 ≤ c ∧ c ≤ 255) :
    Calls Try.prog 6 #[.int .u32 a, .int .u32 b, .int .u8 c] w fun e w' => e = .returned (.bool true) ∧ Below w.heap.size w w' := by
  go_enter Try.func6, Try.ntmps6
  go_upto_region 4 with fail
  obtain ⟨lo, hlo⟩ : ∃ lo, (if b % 1048577 < a % 1048577 then b % 1048577 else a % 1048577) = lo := ⟨_, rfl⟩
  obtain ⟨hi, hhi⟩ : ∃ hi, (if a % 1048577 < b % 1048577 then b % 1048577 else a % 1048577) = hi := ⟨_, rfl⟩
  obtain ⟨n, hn⟩ : ∃ n, 1 + c % 64 = n := ⟨_, rfl⟩
  rw [hlo, hhi, hn]
  have hb1 : 0 ≤ lo ∧ lo ≤ hi ∧ hi ≤ 1048576 ∧ 1 ≤ n ∧ n ≤ 64 := by
    have e1 := Int.emod_nonneg a (show (1048577 : Int) ≠ 0 by omega)
    have e2 := Int.emod_lt_of_pos a (show (0 : Int) < 1048577 by omega)
    have e3 := Int.emod_nonneg b (show (1048577 : Int) ≠ 0 by omega)
    have e4 := Int.emod_lt_of_pos b (show (0 : Int) < 1048577 by omega)
    have e5 := Int.emod_nonneg c (show (64 : Int) ≠ 0 by omega)
    have e6 := Int.emod_lt_of_pos c (show (0 : Int) < 64 by omega)
    omega
  obtain ⟨w1, hw1⟩ : ∃ w1, (w.alloc (.cells #[.int .i64 lo, .int .i64 1, .int .i64 0, .int .i64 0] 26)).alloc (.cells #[.int .i64 hi, .int .i64 1, .int .i64 0, .int .i64 0] 26) = w1 := ⟨_, rfl⟩
  rw [hw1]
  have hlop : InP ⟨lo, 1, 0, 0⟩ := by unfold InP In64; simp; omega
  have hhip : InP ⟨hi, 1, 0, 0⟩ := by unfold InP In64; simp; omega
  have hw : Below w.heap.size w w1 := by rw [← hw1]; exact (below_box w _).alloc (below_box w _).size _
  have at9 : PolAt w1 w.heap.size 0 ⟨lo, 1, 0, 0⟩ := by rw [← hw1]; exact (pol_of_row (heap_alloc_new _ _) hlop).below (below_box _ _)
  have at10 : PolAt w1 (w.heap.size + 1) 0 ⟨hi, 1, 0, 0⟩ := by rw [← hw1]; exact pol_of_row (by have := heap_alloc_new (w.alloc (.cells #[.int .i64 lo, .int .i64 1, .int .i64 0, .int .i64 0] 26)) (.cells #[.int .i64 hi, .int .i64 1, .int .i64 0, .int .i64 0] 26); rwa [size_alloc] at this) hhip
  have HS := Lib.hid (fun (w' : World) (hb : Below w1.heap.size w1 w') => And.intro (ldPol_run (at9.below hb)) (ldPol_run (at10.below hb)))
  have H10 := Lib.hid at10
  simp only at HS
  have Hlo := Lib.hid hlop; have Hhi := Lib.hid hhip; have Hw := Lib.hid hw
  clear hw1 at9 at10 hlop hhip hw hlo hhi hn ha hb hc
  obtain ⟨zl, hzl⟩ : ∃ z, sh lo = z := ⟨_, rfl⟩
  obtain ⟨zh, hzh⟩ : ∃ z, sh hi = z := ⟨_, rfl⟩
  have L1 : loadP [⟨lo, 1, 0, 0⟩] = zl := by rw [← hzl]; exact Int.add_zero _
  have L2 : loadP [⟨hi, 1, 0, 0⟩] = zh := by rw [← hzh]; exact Int.add_zero _
  have HL1 := Lib.hid L1; have HL2 := Lib.hid L2
  have Hzl := Lib.hid hzl; have Hzh := Lib.hid hzh
  clear L1 L2 hzl hzh
  have K1a := Lib.hid (load_one Hlo.out HL1.out _ _ (row1 w1 (.cells #[.int .i64 lo, .int .i64 1, .int .i64 0, .int .i64 0] 26)))
  have K1b := Lib.hid (load_one Hlo.out HL1.out _ _ (row2 w1 (.cells #[.int .i64 lo, .int .i64 1, .int .i64 0, .int .i64 0] 26) (.cells #[.int .i64 hi, .int .i64 1, .int .i64 0, .int .i64 0] 26)))
  have K1c := Lib.hid (load_one Hlo.out HL1.out _ _ (row3 w1 (.cells #[.int .i64 hi, .int .i64 1, .int .i64 0, .int .i64 0] 26) (.cells #[.int .i64 lo, .int .i64 1, .int .i64 0, .int .i64 0] 26)))
  go_cut [12, 13] (fun lv mv wx => lv = .int .i64 zl ∧ mv = .int .i64 zh ∧ Below w1.heap.size w1 wx)
  case first =>
    go_region_held3 (fun w' => (ldPol (.pointer (some ⟨w.heap.size, 0, none⟩))).run Try.prog w' = .ok (.agg #[.int .i64 lo, .int .i64 1, .int .i64 0, .int .i64 0]) w' ∧ (ldPol (.pointer (some ⟨w.heap.size + 1, 0, none⟩))).run Try.prog w' = .ok (.agg #[.int .i64 hi, .int .i64 1, .int .i64 0, .int .i64 0]) w')
      (first | exact HS.out _ (Below.refl _ _).drew | exact HS.out _ (b1 _ _) | exact HS.out _ (b2 _ _ _) | exact HS.out _ H3.out | exact HS.out _ (H3.out.alloc H3.out.size _) | exact HS.out _ H4.out)
      (first
        | (have K2 := load_one Hhi.out HL2.out _ w3 HR.out; with_reducible refine K2.mono ?_; rintro e w4 ⟨rfl, hb4⟩; have H4 := Lib.hid (tr H3.out hb4); clear hb4)
        | (have K2 := load_one Hhi.out HL2.out w3.heap.size (w3.alloc (.cells #[.int .i64 hi, .int .i64 1, .int .i64 0, .int .i64 0] 26)) (heap_alloc_new _ _); with_reducible refine K2.mono ?_; rintro e w4 ⟨rfl, hb4⟩; have H4 := Lib.hid (tr (H3.out.alloc H3.out.size _) hb4); clear hb4)
        | (with_reducible refine K1a.out.mono ?_; rintro e w3 ⟨rfl, hb3⟩; have H3 := Lib.hid (tr (b1 _ _) hb3); clear hb3)
        | (with_reducible refine K1b.out.mono ?_; rintro e w3 ⟨rfl, hb3⟩; have H3 := Lib.hid (tr (b2 _ _ _) hb3); have HR := Lib.hid (row_below (row3 w1 (.cells #[.int .i64 lo, .int .i64 1, .int .i64 0, .int .i64 0] 26) (.cells #[.int .i64 hi, .int .i64 1, .int .i64 0, .int .i64 0] 26)) hb3); clear hb3)
        | (with_reducible refine K1c.out.mono ?_; rintro e w3 ⟨rfl, hb3⟩; have H3 := Lib.hid (tr (b2 _ _ _) hb3); have HR := Lib.hid (row_below (row2 w1 (.cells #[.int .i64 hi, .int .i64 1, .int .i64 0, .int .i64 0] 26) (.cells #[.int .i64 lo, .int .i64 1, .int .i64 0, .int .i64 0] 26)) hb3); clear hb3))
    all_goals
      go_wp2_with fail
      go_meet
      exact ⟨rfl, rfl, H4.out⟩
  case rest =>
    obtain ⟨rfl, rfl, hwc⟩ := hcut
    have HW := Lib.hid hwc
    have hS := HS.out _ hwc
    obtain ⟨s1, s2⟩ := hS
    clear hwc
    have hz : 0 ≤ zl ∧ zl ≤ zh ∧ zh ≤ 1099511627776 := by
      have h1 := shareF_bd (spaceF lo)
      have h2 := shareF_bd (spaceF hi)
      have h3 := sh_up hb1.1 hb1.2.1 hb1.2.2.1
      rw [← Hzl.out, ← Hzh.out]
      exact ⟨h1.1, h3, h2.2⟩
    have hroom : zh ≤ n * 16777216 → hi ≤ 1000 * n := fun h => room (by omega) hb1.2.2.1 hb1.2.2.2.1 (by rw [Hzh.out]; exact h)
    obtain ⟨hz1, hz2, hz3⟩ := hz
    obtain ⟨g1, g2, g3, g4, g5⟩ := hb1
    have hright : ∀ x : Int, 0 ≤ x → x ≤ 1048576 → rightP ⟨x, 1, 0, 0⟩ = true := fun x h1 h2 => (rightP_iff _).2 ⟨⟨h1, h2⟩, by simp, by simp, by simp, .inl rfl⟩
    have hadm : ∀ x z : Int, 0 ≤ x → x ≤ 1048576 → loadP [⟨x, 1, 0, 0⟩] = z → admitsP n [⟨x, 1, 0, 0⟩] = decide (z ≤ n * 16777216) := fun x z h1 h2 h3 => by
      unfold admitsP allP
      rw [h3]
      simp [hright x h1 h2, g4, g5]
    have A1 := hadm lo zl g1 (by omega) HL1.out
    have A2 := hadm hi zh (by omega) g3 HL2.out
    have L0 := Lib.hid (fun w => Load_any none 0 0 [] w rfl (by omega) (PolsAt.nil _ _))
    rw [show loadP [] = 0 from rfl] at L0
    by_cases hr : zh ≤ n * 16777216
    · rw [decide_eq_true (show zl ≤ n * 16777216 by omega)] at A1
      rw [decide_eq_true hr] at A2
      have hr2 := hroom hr
      have C1 := Lib.hid A1; have C2 := Lib.hid A2
      clear A1 A2 hr hroom hadm hright
      go_wp2_with (go_at_call 10; refine (L0.out _).mono ?_; rintro e w5 ⟨rfl, hb5⟩; have H5 := Lib.hid (tr HW.out hb5); have s3 := (HS.out _ H5.out).1; have s4 := (HS.out _ H5.out).2; clear hb5 s1 s2)
      refine (Admits_any n _ 1 1 [⟨hi, 1, 0, 0⟩] _ rfl (by unfold maxLen; omega) (pols_one (heap_alloc_new _ _) Hhi.out) ⟨by omega, by omega⟩).mono ?_
      rw [C2.out]
      rintro e w6 ⟨rfl, hb6⟩
      have H6 := Lib.hid (tr (H5.out.alloc H5.out.size _) hb6)
      have s5 := (HS.out _ H6.out).1
      clear hb6 s3 s4
      go_wp2_with fail
      refine (Admits_any n _ 1 1 [⟨lo, 1, 0, 0⟩] _ rfl (by unfold maxLen; omega) (pols_one (heap_alloc_new _ _) Hlo.out) ⟨by omega, by omega⟩).mono ?_
      rw [C1.out]
      rintro e w7 ⟨rfl, hb7⟩
      have H7 := Lib.hid (tr (H6.out.alloc H6.out.size _) hb7)
      have s6 := (H10.out.below H7.out).1
      simp only at s6
      clear hb7 s5
      go_wp2_with (go_at_call 7; refine (awake_any _).mono ?_; rintro e w8 ⟨rfl, hb8⟩; have H8 := Lib.hid (tr H7.out hb8); clear hb8)
      go_ret
      exact ⟨rfl, Hw.out.trans (H8.out.mono Hw.out.size)⟩
    · rw [decide_eq_false hr] at A2
      have C2 := Lib.hid A2
      clear A1 A2 hroom hadm hright
      go_wp2_with (go_at_call 10; refine (L0.out _).mono ?_; rintro e w5 ⟨rfl, hb5⟩; have H5 := Lib.hid (tr HW.out hb5); have s3 := (HS.out _ H5.out).1; have s4 := (HS.out _ H5.out).2; clear hb5 s1 s2)
      refine (Admits_any n _ 1 1 [⟨hi, 1, 0, 0⟩] _ rfl (by unfold maxLen; omega) (pols_one (heap_alloc_new _ _) Hhi.out) ⟨by omega, by omega⟩).mono ?_
      rw [C2.out]
      rintro e w6 ⟨rfl, hb6⟩
      have H6 := Lib.hid (tr (H5.out.alloc H5.out.size _) hb6)
      have s5 := (HS.out _ H6.out).1
      clear hb6 s3 s4
      go_wp2_with (go_at_call 7; refine (awake_any _).mono ?_; rintro e w8 ⟨rfl, hb8⟩; have H8 := Lib.hid (tr H6.out hb8); clear hb8)
      go_ret
      exact ⟨rfl, Hw.out.trans (H8.out.mono Hw.out.size)⟩

theorem walk (a b c : Int) (w : World) (ha : (Lit.int .u32 a).wf = true) (hb : (Lit.int .u32 b).wf = true) (hc : (Lit.int .u8 c).wf = true) :
    Calls Try.prog 6 #[.int .u32 a, .int .u32 b, .int .u8 c] w fun e w' => e = .returned (.bool true) ∧ Below w.heap.size w w' := by
  simp [Lit.wf, IntKind.min, IntKind.max, IntKind.bits, IntKind.signed] at ha hb hc
  exact walkIn a b c w (by omega) (by omega) (by omega)

/-! ### THE ROW -/
theorem own : ownKnob Try.prog.godebug = none := by kernel_rfl

set_option maxRecDepth 100000 in
theorem lifted (os : Os) (started : os.Started) (H : Type) (enc : TypeId × Value → H) :
    ReturnsInHanded {} Try.checked os 6 .any (Rows.policyLoadsSpec.pre6 enc Try.prog Try.f6 Rows.policyLoadsRow.domain false) (Rows.policyLoadsSpec.post enc Try.prog Try.f6 false true false false) := by
  refine returnsInHanded_of_change (C := Try.checked) own started (by kernel_rfl) Try.func6
    (ChangeSpec.witness6 (enc := enc) (C := Try.checked) false ⟨#[], #[.int .u32 0, .int .u32 0, .int .u8 0], []⟩ 8 (by kernel_rfl) (by kernel_rfl) (by kernel_rfl) (by kernel_rfl)) ?_
  intro W base args ds gs before hval0 hW hcnd _
  have hval : ∀ (j : Nat) t v, Try.f6.params[j]? = some t → args[j]? = some v → Value.okWide Try.prog W .any base t v := hval0
  have hW' := hW
  obtain ⟨p, q, hA0, hV, rfl, hfz, hnd⟩ := hW
  have hA : DataW.TrodAll enc Try.prog W 0 (fun _ => true) true Try.f6.params.toList args.toList ds p := hA0
  rw [Try.params6] at hA hval
  obtain ⟨v0, vs0, d0, ds0, p0, q0, hargs, rfl, rfl, h0, r0⟩ := trodAll_cons hA
  obtain ⟨v1, vs1, d1, ds1, p1, q1, rfl, rfl, rfl, h1, r1⟩ := trodAll_cons r0
  obtain ⟨v2, vs2, d2, ds2, p2, q2, rfl, rfl, rfl, h2, r2⟩ := trodAll_cons r1
  obtain ⟨rfl, rfl, rfl⟩ := trodAll_nil r2
  obtain rfl : args = #[v0, v1, v2] := by cases args; simp_all
  obtain ⟨rfl, rfl⟩ := trodVars_none hV
  obtain ⟨a0, rfl, rfl, rfl, w0⟩ := open_int Try.underlying37 (hval 0 37 v0 rfl rfl) h0
  obtain ⟨a1, rfl, rfl, rfl, w1⟩ := open_int Try.underlying37 (hval 1 37 v1 rfl rfl) h1
  obtain ⟨a2, rfl, rfl, rfl, w2⟩ := open_int Try.underlying5 (hval 2 5 v2 rfl rfl) h2
  refine (walk a0 a1 a2 W w0 w1 w2).mono fun e W' ⟨he, hg⟩ => ?_
  subst he
  exact ⟨_, rfl, law_post hW' rfl (by kernel_rfl) (by kernel_rfl) (by kernel_rfl) Try.underlying4 rfl rfl rfl hg⟩

theorem over : Rows.policyLoadsRow.holds Try.pinned (OpenSpec.ofChange Rows.policyLoadsSpec) :=
  OpenClaim.holds_of_wide 6 Try.f6 rfl rfl rfl rfl rfl rfl rfl ⟨rfl, rfl, rfl, rfl, rfl⟩ rfl rfl rfl rfl rfl (by kernel_rfl) Try.func6 (by kernel_rfl)
    (of_decide_eq_true (by kernel_rfl)) (by unfold Func.isWrapper; first | (rw [if_pos (by decide +kernel)]; kernel_rfl) | (rw [if_neg (by decide +kernel)]; exact ⟨rfl, rfl⟩))
    (fun os started H enc _ => lifted os started H enc)

theorem proved : Rows.PolicyLoadsSaid :=
  over
#print axioms proved

end Go.Proofs.Ytocigbknfhggfaa.PolicyLoads
