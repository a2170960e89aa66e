/-
  PlaceEven: chunks that are placed one by one come to all servers alike, up to one, for every input. No condition but what the row says.
-/
import Derived.Test.YtfigohlgckandaaPlcAwk
import Derived.Test.YtfigohlgckandaaPlcEvn
import Derived.Test.YtfigohlgckandaaRows
import Derived.Test.YtfigohlgckandaaLaw
import Derived.Test.YtfigohlgckandaaChecked
import Derived.Test.YtfigohlgckandaaApp3L
import Derived.Deep.Cut
import Derived.StillTailTactics
namespace Go.Proofs.Ytfigohlgckandaa.PlaceEven
open Go.ChangeShapes Go.WideShapes Go.ChangeAt Go.RowKit Go.Sort Go.Proofs.Ytfigohlgckandaa
set_option linter.unusedVariables false

set_option maxRecDepth 100000 in
set_option maxHeartbeats 4000000 in
theorem walk (sv ch co : Int) (w : World) (hs : (Lit.int .u8 sv).wf = true) (hc : (Lit.int .u8 ch).wf = true) (hk : (Lit.int .u8 co).wf = true) :
    Calls Try.prog 4 #[.int .u8 sv, .int .u8 ch, .int .u8 co] w fun e w' => e = .returned (.bool true) ∧ Below w.heap.size w w' := by
  have hs2 := bounds_u8 hs
  have hc2 := bounds_u8 hc
  have hk2 := bounds_u8 hk
  clear hs hc hk
  obtain ⟨s0, s1⟩ := hs2
  obtain ⟨c0, c1⟩ := hc2
  obtain ⟨k0, k1⟩ := hk2
  have ws : IntKind.i64.wrap sv = sv := IntWalk.i64_in _ ⟨by omega, by omega⟩
  have wc : IntKind.i64.wrap ch = ch := IntWalk.i64_in _ ⟨by omega, by omega⟩
  have wk : IntKind.i64.wrap co = co := IntWalk.i64_in _ ⟨by omega, by omega⟩
  obtain ⟨n, hn, n1, n16⟩ : ∃ n : Nat, 1 + sv % 16 = (n : Int) ∧ 1 ≤ n ∧ n ≤ 16 := ⟨(1 + sv % 16).toNat, by omega, by omega, by omega⟩
  obtain ⟨k, hkk, kk1, kk3⟩ : ∃ k : Nat, 1 + co % 3 = (k : Int) ∧ 1 ≤ k ∧ k ≤ 3 := ⟨(1 + co % 3).toNat, by omega, by omega, by omega⟩
  obtain ⟨T, hT, T60⟩ : ∃ T : Nat, ch % 60 = (T : Int) ∧ T < 60 := ⟨(ch % 60).toNat, by omega, by omega⟩
  go_enter Try.func4, Try.ntmps4
  go_wp2
  go_loopw [9, 10] (fun sv iv wr => ∃ (i : Nat) (A' : Option Addr) (c' : Nat), i ≤ n ∧ iv = .int .i64 (i : Int) ∧ sv = .slice A' i c' ∧ wr.ownsRow w.heap.size 31 2 (.slice A' i c') i (entsV (entsN (fun _ => 0) i)) ∧ Below w.heap.size w wr) (fun _ iv _ => n - (intOf iv).toNat)
  case atStart => exact ⟨0, none, 0, Nat.zero_le _, rfl, rfl, World.ownsRow_nil _ _ _ _, Below.refl _ _⟩
  case round =>
    obtain ⟨i, A', c', hin, rfl, rfl, ho, hb⟩ := hrel
    by_cases hi : i < n
    · have i0 : (0 : Int) ≤ (i : Int) := by omega
      have i1 : (i : Int) < (n : Int) := by omega
      obtain ⟨Wa, hWa⟩ : ∃ Wa, wr.alloc (.cells #[.int .i64 (i : Int), .int .i64 0] 31) = Wa := ⟨_, rfl⟩
      have hba : Below wr.heap.size wr Wa := by rw [← hWa]; exact (Below.refl _ _).alloc (Nat.le_refl _) _
      have hsa : Seen Wa (some ⟨wr.heap.size, 0, none⟩) (entsV [((i : Int), 0)]) := by rw [← hWa]; exact Seen.of_cells (heap_alloc_new wr _)
      have Ho := Lib.hid (own_belowM ho hba); have Hb := Lib.hid (hb.trans (hba.mono hb.size)); have Hsa := Lib.hid hsa
      clear ho hb hba hsa
      go_wp2_with (at_builtin; go_loud (refine wpList_appM rfl (.tmp 29) (.tmp 32) _ rfl 31 _ 2 16 Try.underlying22 load_info rfl (by omega) w.heap.size A' i c' (entsV (entsN (fun _ => 0) i)) rfl Ho.out (some ⟨wr.heap.size, 0, none⟩) 1 1 (entsV [((i : Int), 0)]) rfl rfl Hsa.out (entsV_one _) (by unfold maxLen; omega) (by omega) Hb.out.size ?_; intro A4 c4 w4 hown4 hg4 hbk4; have Hown4 := Lib.hid hown4; have Hg4 := Lib.hid hg4; clear hown4 hg4 hbk4))
      go_roundw
      case rel =>
        have tg : Turned (fun k => (Value.slice A' i c').ownBlock = some k) Wa w4 := Turned.of_grown Hg4.out fun k e => e
        refine ⟨i + 1, A4, c4, by omega, by go_num, rfl, ?_, Hb.out.trans (tg.below (fun k e => (Ho.out.lt k e).1) Hb.out.size)⟩
        rw [entsN_snoc, entsV_append]
        exact Hown4.out
      case measure => simp [intOf]; omega
    · obtain rfl : i = n := by omega
      have i1 : ¬ (i : Int) < (i : Int) := by omega
      obtain ⟨g, cc, hf, hg1, hg2⟩ := ho.form (by omega)
      injection hf with hf1 _ hf2
      subst hf1; subst hf2
      have hcap := own_capL ho
      obtain ⟨hcp1, hcp2⟩ := hcap
      have Ho := Lib.hid ho; have Hb := Lib.hid hb
      clear ho hb
      go_wp2
      go_loopw [11] (fun iv wr => ∃ (t : Nat) (N : Nat → Nat), t ≤ T ∧ iv = .int .i64 (t : Int) ∧ EvenN N i ∧ (∀ j, N j ≤ t) ∧ wr.ownsRow w.heap.size 31 2 (.slice (some ⟨g, 0, none⟩) i c') i (entsV (entsN N i)) ∧ Below w.heap.size w wr) (fun iv _ => T - (intOf iv).toNat)
      case atStart => exact ⟨0, fun _ => 0, Nat.zero_le _, rfl, fun _ _ _ _ => Nat.zero_le _, fun _ => Nat.le_refl _, Ho.out, Hb.out⟩
      case round =>
        obtain ⟨wo, rfl⟩ : ∃ wo, wo = wr := ⟨_, rfl⟩
        obtain ⟨t, N, htT, rfl, hev, hNt, ho, hb⟩ := hrel
        have Hev := Lib.hid hev; have HNt := Lib.hid hNt; have Ho2 := Lib.hid ho; have Hb2 := Lib.hid hb
        clear hev hNt ho hb
        by_cases ht : t < T
        · have t1 : (t : Int) < (T : Int) := by omega
          have KC := Lib.hid (PChoose (some ⟨g, 0, none⟩) i c' (k : Int) (entsN N i) wo (entsN_length _ _) (by omega) (seen_ownE Ho2.out))
          obtain ⟨D, hD⟩ : ∃ D, idsE ((sortE (entsN N i)).take k) = D := ⟨_, rfl⟩
          have hDD : chooseF (entsN N i) (k : Int) = D := by rw [← hD]; rfl
          obtain ⟨P, hP⟩ : ∃ P, D.length = P := ⟨_, rfl⟩
          have hPm : P = min k i := by rw [← hP, ← hD, idsE_length, List.length_take, sortE_length, entsN_length]
          have m1 : min (k : Int) (i : Int) = (P : Int) := by omega
          have m2 : P ≤ 3 := by omega
          rw [hDD] at KC
          have HD := Lib.hid hD; have HP := Lib.hid hP
          have Hnd := Lib.hid (show D.Nodup by rw [← hD]; exact nodup_ids k)
          have Hmem := Lib.hid (fun v (h : v ∈ D) => ids_mem (N := N) (n := i) (k := k) (v := v) (by rw [hD]; exact h))
          have Hev2 := Lib.hid (show EvenN (bump N D) i by rw [← hD]; exact Hev.out.bump k)
          clear hD hDD hP hPm
          go_upto_region 14 with (go_at_call 10; refine KC.out.mono ?_; rintro e w1 ⟨A2, c2, rfl, h2, b2⟩; rw [HP.out] at h2 ⊢; have H2 := Lib.hid h2; have B2 := Lib.hid b2; clear h2 b2)
          have Hg := Lib.hid (show g < wo.heap.size from (Ho2.out.lt g rfl).2)
          go_wp2
          go_loopw [13] (fun iv w3 => ∃ q : Nat, q ≤ P ∧ iv = .int .i64 (q : Int) ∧ w3.ownsRow w.heap.size 31 2 (.slice (some ⟨g, 0, none⟩) i c') i (entsV (entsN (bump N (D.take q)) i)) ∧ w3.ownsRow wo.heap.size 3 1 (.slice A2 P c2) P (numsV D) ∧ Below w.heap.size w w3) (fun iv _ => P - (intOf iv).toNat)
          case atStart => exact ⟨0, Nat.zero_le _, rfl, by rw [List.take_zero, bump_nil]; exact own_belowM Ho2.out B2.out, H2.out, Hb2.out.trans (B2.out.mono Hb2.out.size)⟩
          case round =>
            obtain ⟨q, hqP, rfl, hrow, hids, hb3⟩ := hrel
            have Hrow := Lib.hid hrow; have Hids := Lib.hid hids; have Hb3 := Lib.hid hb3
            clear hrow hids hb3
            by_cases hq : q < P
            · have q0 : (0 : Int) ≤ (q : Int) := by omega
              have q1 : (q : Int) < (P : Int) := by omega
              obtain ⟨h, o, v, rfl, hv, hcv⟩ := (Seen.of_own Hids.out).num (j := q) (by have := HP.out; omega)
              obtain ⟨d, rfl, hdi⟩ := Hmem.out v (List.mem_of_getElem? hv)
              have hsn := take_snocE hv
              have hnot : ((d : Nat) : Int) ∉ D.take q := by
                intro hin
                have := Hnd.out
                have h1 := this.sublist (List.take_sublist (q + 1) D)
                rw [hsn, List.nodup_append] at h1
                exact h1.2.2 _ hin _ (by simp) rfl
              obtain ⟨M, hM⟩ : ∃ M, bump N (D.take q) d = M := ⟨_, rfl⟩
              have hMt := bump_most HNt.out (D.take q) d
              rw [hM] at hMt
              have hget := entsN_get (bump N (D.take q)) hdi
              rw [hM] at hget
              obtain ⟨s1, s2, s3, s4, s5⟩ := own_setN Hrow.out hget ((M : Int) + 1)
              have d0 : (0 : Int) ≤ (d : Int) := by omega
              have d1 : (d : Int) < (i : Int) := by omega
              have m0 : (0 : Int) ≤ (M : Int) := by omega
              have m9 : (M : Int) ≤ 100 := by omega
              have hset : (entsN (bump N (D.take q)) i).set d ((d : Int), (M : Int) + 1) = entsN (bump N (D.take (q + 1))) i := by
                rw [hsn, ← bump_snoc N (D.take q) d hnot, hM]
                exact entsN_set _ (M + 1) hdi
              rw [hset] at s1
              have Hs1 := Lib.hid s1; have Hgl := Lib.hid (And.intro s4 s5)
              clear hv hsn hnot hM hMt hget s1 s4 s5 hset
              obtain ⟨we, rfl⟩ : ∃ we, we = wr := ⟨_, rfl⟩
              dsimp only at s2 s3
              go_upto_region 19 with fail
              go_still_tail 16, (by kernel_rfl)
              change wpList _ _ _ _ _ we.drew
              obtain ⟨wf, hwf⟩ : ∃ wf, we.drew = wf := ⟨_, rfl⟩
              have s2' : wf.frozen? ⟨g, d * 2 + 1, none⟩ = false := by rw [← hwf]; exact s2
              have s3' : wf.cell? ⟨g, d * 2 + 1, none⟩ = some (.int .i64 (M : Int)) := by rw [← hwf]; exact s3
              have hrow4 : (wf.setCell ⟨g, d * 2 + 1, none⟩ (.int .i64 ((M : Int) + 1))).ownsRow w.heap.size 31 2 (.slice (some ⟨g, 0, none⟩) i c') i (entsV (entsN (bump N (D.take (q + 1))) i)) := by
                have : Below (we.setCell ⟨g, d * 2 + 1, none⟩ (.int .i64 ((M : Int) + 1))).heap.size (we.setCell ⟨g, d * 2 + 1, none⟩ (.int .i64 ((M : Int) + 1))) (wf.setCell ⟨g, d * 2 + 1, none⟩ (.int .i64 ((M : Int) + 1))) := by rw [← hwf]; exact ⟨rfl, rfl, rfl, Nat.le_refl _, fun _ _ => rfl⟩
                exact own_belowM Hs1.out this
              have hbf : Below we.heap.size we wf := by rw [← hwf]; exact (Below.refl _ _).drew
              have Hrow4 := Lib.hid hrow4; have Hbf := Lib.hid hbf
              rw [hwf]
              clear hwf s2 s3 hcv hrow4 hbf
              go_wp2
              go_roundw
              case rel =>
                have ts : Turned (fun k => k = g) wf (wf.setCell ⟨g, d * 2 + 1, none⟩ (.int .i64 ((M : Int) + 1))) := (Turned.refl (fun k => k = g) wf).setCell (b := ⟨g, d * 2 + 1, none⟩) (fun _ => rfl) _
                have hi2 := own_belowM Hids.out Hbf.out
                refine ⟨q + 1, by omega, by go_num, Hrow4.out, own_turnedM ts hi2 (fun k hk e => by have := (hi2.lt k hk).1; have := Hg.out; omega), (Hb3.out.trans (Hbf.out.mono Hb3.out.size)).setCell (p := ⟨g, d * 2 + 1, none⟩) Hgl.out.1 _⟩
              case measure => simp [intOf]; omega
            · obtain rfl : q = P := by omega
              have q1 : ¬ (q : Int) < (q : Int) := by omega
              have hall : D.take q = D := List.take_of_length_le (by rw [HP.out]; exact Nat.le_refl _)
              have hrow := Hrow.out
              rw [hall] at hrow
              obtain ⟨M, hM⟩ : ∃ M, bump N D = M := ⟨_, rfl⟩
              have hev2 := Hev2.out
              have hMt : ∀ j, M j ≤ t + 1 := fun j => by rw [← hM]; exact bump_most HNt.out D j
              rw [hM] at hrow hev2
              have Hrow2 := Lib.hid hrow; have Hev3 := Lib.hid hev2; have HMt := Lib.hid hMt
              clear hall hrow hM hev2 hMt
              obtain ⟨we, rfl⟩ : ∃ we, we = wr := ⟨_, rfl⟩
              go_wp2
              go_loopw [14] (fun iv w3 => ∃ p : Nat, p ≤ i ∧ iv = .int .i64 (p : Int) ∧ Below we.heap.size we w3) (fun iv _ => i - (intOf iv).toNat)
              case atStart => exact ⟨0, Nat.zero_le _, rfl, Below.refl _ _⟩
              case round =>
                obtain ⟨p, hpi, rfl, hbp⟩ := hrel
                have Hbp := Lib.hid hbp
                clear hbp
                by_cases hp : p < i
                · have p0 : (0 : Int) ≤ (p : Int) := by omega
                  have p1 : (p : Int) < (i : Int) := by omega
                  obtain ⟨wp, rfl⟩ : ∃ wp, wp = wr := ⟨_, rfl⟩
                  go_wp2
                  go_loopw [15] (fun iv w4 => ∃ j : Nat, j ≤ i ∧ iv = .int .i64 (j : Int) ∧ Below we.heap.size we w4) (fun iv _ => i - (intOf iv).toNat)
                  case atStart => exact ⟨0, Nat.zero_le _, rfl, Hbp.out⟩
                  case round =>
                    obtain ⟨j, hji, rfl, hbj⟩ := hrel
                    have Hbj := Lib.hid hbj
                    clear hbj
                    by_cases hj : j < i
                    · have j0 : (0 : Int) ≤ (j : Int) := by omega
                      have j1 : (j : Int) < (i : Int) := by omega
                      have hsee := seen_ownE (own_belowM Hrow2.out Hbj.out)
                      obtain ⟨g', o', hA, -, e1⟩ := hsee.ent (entsN_get M hp)
                      obtain ⟨g2, o2, hA2, -, e2⟩ := hsee.ent (entsN_get M hj)
                      injection hA with hA
                      injection hA with hA1 hA3 _
                      subst hA1; subst hA3
                      injection hA2 with hA2
                      injection hA2 with hA4 hA5 _
                      subst hA4; subst hA5
                      simp only [Nat.zero_add] at e1 e2
                      have h3 := Hev3.out p j hp hj
                      have h4 := HMt.out p
                      have h5 := HMt.out j
                      obtain ⟨x, hx⟩ : ∃ x : Nat, M p = x := ⟨_, rfl⟩
                      obtain ⟨y, hy⟩ : ∃ y : Nat, M j = y := ⟨_, rfl⟩
                      rw [hx] at e1 h3 h4
                      rw [hy] at e2 h3 h5
                      have z1 : ¬ (y : Int) + 1 < (x : Int) := by omega
                      have z2 : (y : Int) ≤ 100 := by omega
                      have z3 : (0 : Int) ≤ (y : Int) := by omega
                      clear hx hy h3 h4 h5 hsee
                      go_wp2
                      go_quiet (fail)
                      go_wp2
                      go_roundw
                      case rel => exact ⟨j + 1, by omega, by go_num, below_drewN Hbj.out _⟩
                      case measure => simp [intOf]; omega
                    · obtain rfl : j = i := by omega
                      have j1 : ¬ (j : Int) < (j : Int) := by omega
                      go_wp2
                      go_roundw
                      case rel => exact ⟨p + 1, by omega, by go_num, Hbj.out⟩
                      case measure => simp [intOf]; omega
                · obtain rfl : p = i := by omega
                  have p1 : ¬ (p : Int) < (p : Int) := by omega
                  go_wp2
                  go_roundw
                  case rel => exact ⟨t + 1, M, by omega, by go_num, Hev3.out, HMt.out, own_belowM Hrow2.out Hbp.out, Hb3.out.trans (Hbp.out.mono Hb3.out.size)⟩
                  case measure => simp [intOf]; omega
        · obtain rfl : t = T := by omega
          have t1 : ¬ (t : Int) < (t : Int) := by omega
          go_wp2_with (go_at_call 6; refine (awake_any _).mono ?_; rintro e w6 ⟨rfl, hb6⟩; have Hb6 := Lib.hid (Hb2.out.trans (hb6.mono Hb2.out.size)); clear hb6)
          go_ret
          exact ⟨rfl, Hb6.out⟩

/-! ### THE ROW -/
theorem own : ownKnob Try.prog.godebug = none := by kernel_rfl

set_option maxRecDepth 100000 in
theorem lifted (os : Os) (started : os.Started) (H : Type) (enc : TypeId × Value → H) :
    ReturnsInHanded {} Try.checked os 4 .any (Rows.placeEvenSpec.pre6 enc Try.prog Try.f4 Rows.placeEvenRow.domain false) (Rows.placeEvenSpec.post enc Try.prog Try.f4 false true false false) := by
  refine returnsInHanded_of_change (C := Try.checked) own started (by kernel_rfl) Try.func4
    (ChangeSpec.witness6 (enc := enc) (C := Try.checked) false ⟨#[], #[.int .u8 0, .int .u8 0, .int .u8 0], []⟩ 8 (by kernel_rfl) (by kernel_rfl) (by kernel_rfl) (by kernel_rfl)) ?_
  intro W base args ds gs before hval0 hW hcnd _
  have hval : ∀ (j : Nat) t v, Try.f4.params[j]? = some t → args[j]? = some v → Value.okWide Try.prog W .any base t v := hval0
  have hW' := hW
  obtain ⟨p, q, hA0, hV, rfl, hfz, hnd⟩ := hW
  have hA : DataW.TrodAll enc Try.prog W 0 (fun _ => true) true Try.f4.params.toList args.toList ds p := hA0
  rw [Try.params4] at hA hval
  obtain ⟨v0, vs0, d0, ds0, p0, q0, hargs, rfl, rfl, h0, r0⟩ := trodAll_cons hA
  obtain ⟨v1, vs1, d1, ds1, p1, q1, rfl, rfl, rfl, h1, r1⟩ := trodAll_cons r0
  obtain ⟨v2, vs2, d2, ds2, p2, q2, rfl, rfl, rfl, h2, r2⟩ := trodAll_cons r1
  obtain ⟨rfl, rfl, rfl⟩ := trodAll_nil r2
  obtain rfl : args = #[v0, v1, v2] := by cases args; simp_all
  obtain ⟨rfl, rfl⟩ := trodVars_none hV
  obtain ⟨a0, rfl, rfl, rfl, w0⟩ := open_int Try.underlying5 (hval 0 5 v0 rfl rfl) h0
  obtain ⟨a1, rfl, rfl, rfl, w1⟩ := open_int Try.underlying5 (hval 1 5 v1 rfl rfl) h1
  obtain ⟨a2, rfl, rfl, rfl, w2⟩ := open_int Try.underlying5 (hval 2 5 v2 rfl rfl) h2
  refine (walk a0 a1 a2 W w0 w1 w2).mono fun e W' ⟨he, hg⟩ => ?_
  subst he
  exact ⟨_, rfl, law_post hW' rfl (by kernel_rfl) (by kernel_rfl) (by kernel_rfl) Try.underlying4 rfl rfl rfl hg⟩

theorem over : Rows.placeEvenRow.holds Try.pinned (OpenSpec.ofChange Rows.placeEvenSpec) :=
  OpenClaim.holds_of_wide 4 Try.f4 rfl rfl rfl rfl rfl rfl rfl ⟨rfl, rfl, rfl, rfl, rfl⟩ rfl rfl rfl rfl rfl (by kernel_rfl) Try.func4 (by kernel_rfl)
    (of_decide_eq_true (by kernel_rfl)) (by unfold Func.isWrapper; first | (rw [if_pos (by decide +kernel)]; kernel_rfl) | (rw [if_neg (by decide +kernel)]; exact ⟨rfl, rfl⟩))
    (fun os started H enc _ => lifted os started H enc)

theorem proved : Rows.PlaceEvenSaid :=
  over
#print axioms proved

end Go.Proofs.Ytfigohlgckandaa.PlaceEven
