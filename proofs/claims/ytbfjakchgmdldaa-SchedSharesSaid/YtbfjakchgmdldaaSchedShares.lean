/-
  SchedShares: two flows that are always up, without reservations and limits, share what is picked as their weights, up to one of each (of 200 picks); it holds for every input. No condition.
-/
import Derived.Test.YtbfjakchgmdldaaSchSha
import Derived.Test.YtbfjakchgmdldaaRows
import Derived.Test.YtbfjakchgmdldaaChecked
namespace Go.Proofs.Ytbfjakchgmdldaa.SchedShares
open Go.ChangeShapes Go.WideShapes Go.ChangeAt Go.RowKit
set_option linter.unusedVariables false

/-- the two flows, newly set -/
theorem sh_set0 {w : World} {Z s : Nat} {u : Int} (H : SchAt w Z s [] (fun _ => newFl)) (h1 : 1 ≤ u) (h8 : u ≤ 8) (hB : Z ≤ w.heap.size) :
    Calls Try.prog 11 #[.pointer (some ⟨s, 0, none⟩), .int .i64 0, .int .i64 1, .agg #[.int .i64 0, .int .i64 u, .int .i64 0, .int .i64 0]] w (fun e w' => e = .returned (.int .i64 0) ∧ SchAt w' Z s [0] (updF (fun _ => newFl) 0 (shFl u 0 [])) ∧ KeptS Z w w') := by
  refine (SSet_any Z s [] (fun _ => newFl) 0 1 ⟨0, u, 0, 0⟩ w H (by unfold In64; decide) (by unfold In64; decide) (by unfold InP In64; simp only; omega) (by decide) hB).mono ?_
  rintro e w' ⟨rfl, h1', h2⟩
  have e0 : setE [] (fun _ => newFl) 0 1 ⟨0, u, 0, 0⟩ = 0 := by unfold setE; rw [sh_right h1 h8]; rfl
  unfold setK setG at h1'
  rw [e0, if_pos rfl, if_pos rfl] at h1'
  rw [e0]
  refine ⟨rfl, ?_, h2⟩
  have : setFl (if (0 : Int) ∈ ([] : List Int) then newFl else newFl) 1 ⟨0, u, 0, 0⟩ = shFl u 0 [] := by unfold setFl shFl newFl; simp
  rw [this] at h1'
  exact h1'
theorem sh_set1 {w : World} {Z s : Nat} {u v : Int} (H : SchAt w Z s [0] (updF (fun _ => newFl) 0 (shFl u 0 []))) (h1 : 1 ≤ v) (h8 : v ≤ 8) (hB : Z ≤ w.heap.size) :
    Calls Try.prog 11 #[.pointer (some ⟨s, 0, none⟩), .int .i64 1, .int .i64 1, .agg #[.int .i64 0, .int .i64 v, .int .i64 0, .int .i64 0]] w (fun e w' => e = .returned (.int .i64 0) ∧ SchAt w' Z s [0, 1] (updF (updF (fun _ => newFl) 0 (shFl u 0 [])) 1 (shFl v 0 [])) ∧ KeptS Z w w') := by
  refine (SSet_any Z s [0] _ 1 1 ⟨0, v, 0, 0⟩ w H (by unfold In64; decide) (by unfold In64; decide) (by unfold InP In64; simp only; omega) (by decide) hB).mono ?_
  rintro e w' ⟨rfl, h1', h2⟩
  have e0 : setE [0] (updF (fun _ => newFl) 0 (shFl u 0 [])) 1 1 ⟨0, v, 0, 0⟩ = 0 := by unfold setE; rw [sh_right h1 h8]; rfl
  unfold setK setG at h1'
  rw [e0, if_pos rfl, if_pos rfl] at h1'
  rw [e0]
  refine ⟨rfl, ?_, h2⟩
  have : setFl (if (1 : Int) ∈ [(0 : Int)] then updF (fun _ => newFl) 0 (shFl u 0 []) 1 else newFl) 1 ⟨0, v, 0, 0⟩ = shFl v 0 [] := by rw [if_neg (by decide)]; unfold setFl shFl newFl; simp
  rw [this] at h1'
  exact h1'
theorem zeros_fill : zeros (fillQ 3) 3 := ⟨fillQ_len 3, by decide⟩
theorem sh_filled (u : Int) : fillFl (shFl u 0 []) 0 0 3 = shFl u 0 (fillQ 3) := by
  unfold fillFl
  rw [if_neg (by decide), atF_zero]
  unfold wakeF shFl
  simp
theorem sh_fill0 {w : World} {Z s : Nat} {u v : Int} (H : SchAt w Z s [0, 1] (updF (updF (fun _ => newFl) 0 (shFl u 0 [])) 1 (shFl v 0 []))) (hB : Z ≤ w.heap.size) :
    Calls Try.prog 12 #[.pointer (some ⟨s, 0, none⟩), .int .i64 0, .int .i64 0] w (fun e w' => e = .returned (.bool true) ∧ SchAt w' Z s [0, 1] (updF (updF (fun _ => newFl) 0 (shFl u 0 (fillQ 3))) 1 (shFl v 0 [])) ∧ KeptS Z w w') := by
  refine (fill_any Z s [0, 1] _ 0 0 w H (by decide) rfl (by unfold In64; decide) (by unfold In64; decide) (by decide) hB).mono ?_
  rintro e w' ⟨rfl, l, hl, h1, h2⟩
  refine ⟨rfl, ?_, h2⟩
  have hl0 : l = 0 := by
    rcases hl with ⟨_, h⟩ | ⟨j, hj, hu, _⟩
    · exact h
    · exfalso
      revert hu
      rcases two_of (P := fun _ => True) hj with rfl | rfl <;> exact fun h => by cases h
  subst hl0
  refine h1.congr fun k hk => ?_
  rcases two_of (P := fun _ => True) hk with rfl | rfl
  · exact (sh_filled u).symm
  · rfl
theorem sh_fill1 {w : World} {Z s : Nat} {u v : Int} (H : SchAt w Z s [0, 1] (updF (updF (fun _ => newFl) 0 (shFl u 0 (fillQ 3))) 1 (shFl v 0 []))) (hB : Z ≤ w.heap.size) :
    Calls Try.prog 12 #[.pointer (some ⟨s, 0, none⟩), .int .i64 1, .int .i64 0] w (fun e w' => e = .returned (.bool true) ∧ ShAt w' Z s u v 0 0 3 3 ∧ KeptS Z w w') := by
  refine (fill_any Z s [0, 1] _ 1 0 w H (by decide) rfl (by unfold In64; decide) (by unfold In64; decide) (by decide) hB).mono ?_
  rintro e w' ⟨rfl, l, hl, h1, h2⟩
  refine ⟨rfl, ?_, h2⟩
  have hl0 : l = 0 := by
    rcases hl with ⟨_, h⟩ | ⟨j, hj, hu, h, _⟩
    · exact h
    · rcases two_of (P := fun _ => True) hj with rfl | rfl
      · rw [h]
        show 0 * (67108864 / u) = 0
        rw [Int.zero_mul]
      · exfalso
        revert hu
        exact fun h => by cases h
  subst hl0
  exact ⟨_, fillQ 3, fillQ 3, h1, rfl, sh_filled v, zeros_fill, zeros_fill⟩
theorem ShAt.below {w w' : World} {Z s : Nat} {u v c d : Int} {n m : Nat} (h : ShAt w Z s u v c d n m) (hb : Below w.heap.size w w') : ShAt w' Z s u v c d n m := by
  obtain ⟨F, q1, q2, h, r⟩ := h
  exact ⟨F, q1, q2, h.below hb, r⟩
theorem ShAt.turned {p : Nat → Prop} {w w' : World} {Z s : Nat} {u v c d : Int} {n m : Nat} (h : ShAt w Z s u v c d n m) (ht : Turned p w w') (hp : ∀ k, p k → ∀ o, w.heap[k]? = some o → ∃ cs T fr, o = .cells cs T fr ∧ ¬ TouchS T) : ShAt w' Z s u v c d n m := by
  obtain ⟨F, q1, q2, h, r⟩ := h
  exact ⟨F, q1, q2, h.turned ht hp, r⟩
theorem w64 (n : Int) (h1 : -9223372036854775808 ≤ n) (h2 : n ≤ 9223372036854775807) : wrap64 n = n := by
  unfold wrap64
  omega
/-- picked and pushed again -/
def ShOk (u v c d : Int) : Prop := c * (67108864 / u) ≤ d * (67108864 / v) + 67108864 / u ∧ d * (67108864 / v) ≤ c * (67108864 / u) + 67108864 / v
set_option maxRecDepth 100000 in
set_option maxHeartbeats 4000000 in
theorem walkIn (a b n : Int) (w : World) (ha : 0 ≤ a ∧ a ≤ 255) (hb : 0 ≤ b ∧ b ≤ 255) (hn : 0 ≤ n ∧ n ≤ 255) :
    Calls Try.prog 6 #[.int .u8 a, .int .u8 b, .int .u8 n] w fun e w' => e = .returned (.bool true) ∧ Below w.heap.size w w' := by
  obtain ⟨a1, a2⟩ := ha
  obtain ⟨b1, b2⟩ := hb
  obtain ⟨n1, n2⟩ := hn
  obtain ⟨Z, hZ⟩ : ∃ Z, w.heap.size = Z := ⟨_, rfl⟩
  have KN := Lib.hid (New_any w)
  unfold NewRet at KN
  rw [hZ] at KN
  have HZ := Lib.hid hZ
  clear hZ
  go_enter Try.func6, Try.ntmps6
  go_upto_region 5 with (go_at_call 9; refine KN.out.mono ?_; rintro e w1 ⟨rfl, hA, hb1⟩; have HA := Lib.hid hA; have Hb1 := Lib.hid hb1; clear hA hb1)
  have hu : 1 ≤ 1 + a % 8 ∧ 1 + a % 8 ≤ 8 := by omega
  have hv : 1 ≤ 1 + b % 8 ∧ 1 + b % 8 ≤ 8 := by omega
  generalize 1 + a % 8 = u at hu ⊢
  generalize 1 + b % 8 = v at hv ⊢
  obtain ⟨u1, u8⟩ := hu
  obtain ⟨v1, v8⟩ := hv
  have hz : ∀ (W : World), Below Z w W → Z ≤ W.heap.size := fun _ h => by have := h.size; have := HZ.out; omega
  have Hz := Lib.hid hz
  clear hz
  go_upto_region 7 with (first
    | (go_at_call 12; refine (sh_fill1 HA4.out (Hz.out _ Hb4.out)).mono ?_; rintro e w5 ⟨rfl, hA, hk⟩; have HA5 := Lib.hid hA; have Hb5 := Lib.hid (Hb4.out.trans (hk.below (Hz.out _ Hb4.out))); clear hA hk)
    | (go_at_call 12; refine (sh_fill0 HA3.out (Hz.out _ Hb3.out)).mono ?_; rintro e w4 ⟨rfl, hA, hk⟩; have HA4 := Lib.hid hA; have Hb4 := Lib.hid (Hb3.out.trans (hk.below (Hz.out _ Hb3.out))); clear hA hk)
    | (go_at_call 11; refine (sh_set1 HA2.out v1 v8 (Hz.out _ Hb2.out)).mono ?_; rintro e w3 ⟨rfl, hA, hk⟩; have HA3 := Lib.hid hA; have Hb3 := Lib.hid (Hb2.out.trans (hk.below (Hz.out _ Hb2.out))); clear hA hk)
    | (go_at_call 11; refine (sh_set0 HA.out u1 u8 (Hz.out _ Hb1.out)).mono ?_; rintro e w2 ⟨rfl, hA, hk⟩; have HA2 := Lib.hid hA; have Hb2 := Lib.hid (Hb1.out.trans (hk.below (Hz.out _ Hb1.out))); clear hA hk))
  clear HA HA2 HA3 HA4 Hb1 Hb2 Hb3 Hb4 KN
  go_upto_region 8 with fail
  have hx := heap_alloc_new w5 (.cells #[.int .i64 0, .int .i64 0] 51)
  have hb6 := Hb5.out.trans ((below_box w5 (.cells #[.int .i64 0, .int .i64 0] 51)).mono (Hz.out _ Hb5.out))
  have hA6 : ShAt (w5.alloc (.cells #[.int .i64 0, .int .i64 0] 51)) Z (Z + 1) u v 0 0 3 3 := by
    obtain ⟨F, q1, q2, h, r⟩ := HA5.out
    exact ⟨F, q1, q2, h.below (below_box _ _), r⟩
  have Hg := Lib.hid (Hz.out _ Hb5.out)
  change Code.wp _ _ _ _ (w5.alloc (.cells #[.int .i64 0, .int .i64 0] 51))
  generalize w5.alloc (.cells #[.int .i64 0, .int .i64 0] 51) = w6 at hx hb6 hA6 ⊢
  obtain ⟨g, hg⟩ : ∃ g, w5.heap.size = g := ⟨_, rfl⟩
  rw [hg] at hx Hg ⊢
  have Hx6 := Lib.hid hx; have Hb6 := Lib.hid hb6; have HA6 := Lib.hid hA6
  clear hx hb6 hA6 HA5 Hb5 hg
  have k0 : 0 ≤ n % 200 ∧ n % 200 ≤ 199 := by omega
  obtain ⟨k1, k2⟩ := k0
  go_wp2
  go_loopw [11] (fun iv wr => ∃ (m : Nat) (c d : Int), iv = .int .i64 (m : Int) ∧ (m : Int) ≤ n % 200 ∧ 0 ≤ c ∧ 0 ≤ d ∧ c + d = m ∧ ShOk u v c d ∧ ShAt wr Z (Z + 1) u v c d 3 3 ∧ wr.heap[g]? = some (.cells #[.int .i64 c, .int .i64 d] 51 (0, 0)) ∧ Below Z w wr) (fun iv _ => 200 - (intOf iv).toNat)
  case atStart =>
    refine ⟨0, 0, 0, rfl, by omega, by omega, by omega, rfl, ?_, HA6.out, Hx6.out, Hb6.out⟩
    have e1 := we_bd u1
    have e2 := we_bd v1
    unfold ShOk
    rw [Int.zero_mul, Int.zero_mul]
    omega
  case round =>
    obtain ⟨m, c, d, rfl, hm, hc, hd, hcd, hok, hs, hx, hb⟩ := hrel
    have Hok := Lib.hid hok; have Hs := Lib.hid hs; have Hx := Lib.hid hx; have Hb := Lib.hid hb
    clear hok hs hx hb
    have i0 : (0 : Int) ≤ (m : Int) := by omega
    by_cases hi : (m : Int) < n % 200
    · have wc := wrap_in (c + 1) (by omega) (by omega)
      have wd := wrap_in (d + 1) (by omega) (by omega)
      have wi := wrap_in ((m : Int) + 1) (by omega) (by omega)
      go_upto_region 12 with (go_at_call 13; refine (sh_pick Hs.out u1 u8 v1 v8 hc hd (by omega) (Hz.out _ Hb.out)).mono ?_; rintro e w2 ⟨k, it, rfl, hk2, h2⟩; have Hb2 := Lib.hid (Hb.out.trans (hk2.below (Hz.out _ Hb.out))); have Hx2 := Lib.hid (hk2.heap Hx.out (by unfold TouchS; decide)); have H2 := Lib.hid h2; clear hk2 h2)
      have hb3 := Hb2.out.trans ((below_box w2 (.cells #[.int .i64 it.na, .int .i64 it.de, .int .i64 it.rh] 36)).mono (Hz.out _ Hb2.out))
      have hbb := below_box w2 (.cells #[.int .i64 it.na, .int .i64 it.de, .int .i64 it.rh] 36)
      change Code.wp _ _ _ _ (w2.alloc (.cells #[.int .i64 it.na, .int .i64 it.de, .int .i64 it.rh] 36))
      generalize w2.alloc (.cells #[.int .i64 it.na, .int .i64 it.de, .int .i64 it.rh] 36) = w3 at hb3 hbb ⊢
      have Hb3 := Lib.hid hb3
      have Hx3 := Lib.hid ((hbb.block _ (Array.getElem?_eq_some_iff.1 Hx2.out).1).trans Hx2.out)
      have h2 := H2.out
      rcases h2 with ⟨rfl, hle, h2⟩ | ⟨rfl, hle, h2⟩
      all_goals have HS3 := Lib.hid (ShAt.below h2 hbb)
      all_goals clear h2 hbb hb3
      · go_wp2_with (go_at_call 14; refine (sh_push (k := 0) (.inl ⟨rfl, HS3.out⟩) (Hz.out _ Hb3.out)).mono ?_; rintro e w4 ⟨rfl, hs4, hk4⟩; have HS4 := Lib.hid hs4; have Hb4 := Lib.hid (Hb3.out.trans (hk4.below (Hz.out _ Hb3.out))); have hx4 := hk4.heap Hx3.out (by unfold TouchS; decide); have Hx4 := Lib.hid hx4; have cc : w4.cell? ⟨g, 0, none⟩ = some (.int .i64 c) := row_cell hx4 0; have cz : w4.frozen? ⟨g, 0, none⟩ = false := row_frozen hx4 0; clear hs4 hk4 hx4)
        have t5 : Turned (fun j => j = g) w4 (w4.setCell ⟨g, 0, none⟩ (.int .i64 (c + 1))) := set_wo (g := g) 0 _
        have hx5 := row_set Hx4.out 0 (.int .i64 (c + 1))
        go_roundw
        case rel =>
          refine ⟨m + 1, c + 1, d, by go_num, by omega, by omega, by omega, by omega, (shares_pick (we_pos u1 u8) (we_pos v1 v8) Hok.out.1 Hok.out.2).1 hle, ShAt.turned HS4.out t5 fun j hj o ho => ?_, hx5, Hb4.out.trans (t5.below (fun j hj => by have := Hg.out; omega) (Hz.out _ Hb4.out))⟩
          rw [hj, Hx4.out] at ho
          injection ho with ho
          exact ⟨_, _, _, ho.symm, by unfold TouchS; decide⟩
        case measure => simp [intOf]; omega
      · go_wp2_with (go_at_call 14; refine (sh_push (k := 1) (.inr ⟨rfl, HS3.out⟩) (Hz.out _ Hb3.out)).mono ?_; rintro e w4 ⟨rfl, hs4, hk4⟩; have HS4 := Lib.hid hs4; have Hb4 := Lib.hid (Hb3.out.trans (hk4.below (Hz.out _ Hb3.out))); have hx4 := hk4.heap Hx3.out (by unfold TouchS; decide); have Hx4 := Lib.hid hx4; have cc : w4.cell? ⟨g, 1, none⟩ = some (.int .i64 d) := row_cell hx4 1; have cz : w4.frozen? ⟨g, 1, none⟩ = false := row_frozen hx4 1; clear hs4 hk4 hx4)
        have t5 : Turned (fun j => j = g) w4 (w4.setCell ⟨g, 1, none⟩ (.int .i64 (d + 1))) := set_wo (g := g) 1 _
        have hx5 := row_set Hx4.out 1 (.int .i64 (d + 1))
        go_roundw
        case rel =>
          refine ⟨m + 1, c, d + 1, by go_num, by omega, by omega, by omega, by omega, (shares_pick (we_pos u1 u8) (we_pos v1 v8) Hok.out.1 Hok.out.2).2 hle, ShAt.turned HS4.out t5 fun j hj o ho => ?_, hx5, Hb4.out.trans (t5.below (fun j hj => by have := Hg.out; omega) (Hz.out _ Hb4.out))⟩
          rw [hj, Hx4.out] at ho
          injection ho with ho
          exact ⟨_, _, _, ho.symm, by unfold TouchS; decide⟩
        case measure => simp [intOf]; omega
    · have hmn : (m : Int) = n % 200 := by omega
      have c200 : c ≤ 200 := by omega
      have d200 : d ≤ 200 := by omega
      have fin := shares_even u1 u8 v1 v8 hc c200 hd d200 Hok.out.1 Hok.out.2
      have q0 : 0 ≤ c * v ∧ c * v ≤ 1600 := ⟨Int.mul_nonneg hc (by omega), by have := Int.mul_le_mul c200 v8 (by omega) (by omega); omega⟩
      have q1 : 0 ≤ d * u ∧ d * u ≤ 1600 := ⟨Int.mul_nonneg hd (by omega), by have := Int.mul_le_mul d200 u8 (by omega) (by omega); omega⟩
      have wq0 := w64 (c * v) (by omega) (by omega)
      have wq1 := w64 (d * u) (by omega) (by omega)
      have wq2 := w64 (c * v - d * u) (by omega) (by omega)
      have wq3 := w64 (u + v) (by omega) (by omega)
      have wq4 := w64 (-u) (by omega) (by omega)
      have wq5 := w64 (-u - v) (by omega) (by omega)
      obtain ⟨f1, f2⟩ := fin
      have cc : wr.cell? ⟨g, 0, none⟩ = some (.int .i64 c) := row_cell Hx.out 0
      have cd : wr.cell? ⟨g, 1, none⟩ = some (.int .i64 d) := row_cell Hx.out 1
      go_wp2_with (go_at_call 8; refine (awake_any wr).mono ?_; rintro e w4 ⟨rfl, hb4⟩; have B4 := Lib.hid (Hb.out.trans (hb4.mono (Hz.out _ Hb.out))); clear hb4)
      go_ret
      refine ⟨rfl, ?_⟩
      rw [HZ.out]
      exact B4.out

theorem walk (a b n : Int) (w : World) (ha : (Lit.int .u8 a).wf = true) (hb : (Lit.int .u8 b).wf = true) (hn : (Lit.int .u8 n).wf = true) :
    Calls Try.prog 6 #[.int .u8 a, .int .u8 b, .int .u8 n] w fun e w' => e = .returned (.bool true) ∧ Below w.heap.size w w' := by
  simp [Lit.wf, IntKind.min, IntKind.max, IntKind.bits, IntKind.signed] at ha hb hn
  exact walkIn a b n w (by omega) (by omega) (by omega)

/-! ### THE ROW -/
theorem own : ownKnob Try.prog.godebug = none := by kernel_rfl

set_option maxRecDepth 100000 in
theorem lifted (os : Os) (started : os.Started) (H : Type) (enc : TypeId × Value → H) :
    ReturnsInHanded {} Try.checked os 6 .any (Rows.schedSharesSpec.pre6 enc Try.prog Try.f6 Rows.schedSharesRow.domain false) (Rows.schedSharesSpec.post enc Try.prog Try.f6 false true false false) := by
  refine returnsInHanded_of_change (C := Try.checked) own started (by kernel_rfl) Try.func6
    (ChangeSpec.witness6 (enc := enc) (C := Try.checked) false ⟨#[], #[.int .u8 0, .int .u8 0, .int .u8 0], []⟩ 8 (by kernel_rfl) (by kernel_rfl) (by kernel_rfl) (by kernel_rfl)) ?_
  intro W base args ds gs before hval0 hW hcnd _
  have hval : ∀ (j : Nat) t v, Try.f6.params[j]? = some t → args[j]? = some v → Value.okWide Try.prog W .any base t v := hval0
  have hW' := hW
  obtain ⟨p, q, hA0, hV, rfl, hfz, hnd⟩ := hW
  have hA : DataW.TrodAll enc Try.prog W 0 (fun _ => true) true Try.f6.params.toList args.toList ds p := hA0
  rw [Try.params6] at hA hval
  obtain ⟨v0, vs0, d0, ds0, p0, q0, hargs, rfl, rfl, h0, r0⟩ := trodAll_cons hA
  obtain ⟨v1, vs1, d1, ds1, p1, q1, rfl, rfl, rfl, h1, r1⟩ := trodAll_cons r0
  obtain ⟨v2, vs2, d2, ds2, p2, q2, rfl, rfl, rfl, h2, r2⟩ := trodAll_cons r1
  obtain ⟨rfl, rfl, rfl⟩ := trodAll_nil r2
  obtain rfl : args = #[v0, v1, v2] := by cases args; simp_all
  obtain ⟨rfl, rfl⟩ := trodVars_none hV
  obtain ⟨a0, rfl, rfl, rfl, w0⟩ := open_int Try.underlying5 (hval 0 5 v0 rfl rfl) h0
  obtain ⟨a1, rfl, rfl, rfl, w1⟩ := open_int Try.underlying5 (hval 1 5 v1 rfl rfl) h1
  obtain ⟨a2, rfl, rfl, rfl, w2⟩ := open_int Try.underlying5 (hval 2 5 v2 rfl rfl) h2
  refine (walk a0 a1 a2 W w0 w1 w2).mono fun e W' ⟨he, hg⟩ => ?_
  subst he
  exact ⟨_, rfl, law_post hW' rfl (by kernel_rfl) (by kernel_rfl) (by kernel_rfl) Try.underlying4 rfl rfl rfl hg⟩

theorem over : Rows.schedSharesRow.holds Try.pinned (OpenSpec.ofChange Rows.schedSharesSpec) :=
  OpenClaim.holds_of_wide 6 Try.f6 rfl rfl rfl rfl rfl rfl rfl ⟨rfl, rfl, rfl, rfl, rfl⟩ rfl rfl rfl rfl rfl (by kernel_rfl) Try.func6 (by kernel_rfl)
    (of_decide_eq_true (by kernel_rfl)) (by unfold Func.isWrapper; first | (rw [if_pos (by decide +kernel)]; kernel_rfl) | (rw [if_neg (by decide +kernel)]; exact ⟨rfl, rfl⟩))
    (fun os started H enc _ => lifted os started H enc)

theorem proved : Rows.SchedSharesSaid :=
  over
#print axioms proved

end Go.Proofs.Ytbfjakchgmdldaa.SchedShares
