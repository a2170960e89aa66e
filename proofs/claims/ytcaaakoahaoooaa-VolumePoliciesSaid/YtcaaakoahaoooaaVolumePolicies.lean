/-
  VolumePolicies: a policy that is refused changes nothing; one that isn't is the volume's, with the next version; each server that has it has it once; for every input. No condition but what the row says.
-/
import Derived.Test.YtcaaakoahaoooaaVolOne
import Derived.Test.YtcaaakoahaoooaaPolOpen
import Derived.Test.YtcaaakoahaoooaaVolSame
import Derived.Test.YtcaaakoahaoooaaRows
import Derived.Test.YtcaaakoahaoooaaChecked
import Derived.Deep.DeepCutAuto
import Derived.Deep.RegionHeld3
namespace Go.Proofs.Ytcaaakoahaoooaa.VolumePolicies
open Go.ChangeShapes Go.WideShapes Go.ChangeAt Go.RowKit Go.Proofs.Ytcaaakoahaoooaa
set_option linter.unusedVariables false
set_option linter.unusedSimpArgs false

theorem bdP1 (w : World) : (bdCmd #[(0, .int .i64 1), (1, .int .i64 0), (2, .int .i64 2)]).run Try.prog w = .ok (cmdA cP1) w := by kernel_rfl
theorem bdP2 (nb : Int) (w : World) : (bdCmd #[(0, .int .i64 2), (1, .int .i64 9), (2, .int .i64 nb), (3, .int .i64 1), (4, .agg #[.int .i64 0, .int .i64 1, .int .i64 0, .int .i64 0])]).run Try.prog w = .ok (cmdA (cP2 nb)) w := by kernel_rfl
theorem bdP5 (a b c d : Int) (w : World) : (bdCmd #[(0, .int .i64 5), (1, .int .i64 9), (4, .agg #[.int .i64 a, .int .i64 b, .int .i64 c, .int .i64 d])]).run Try.prog w = .ok (cmdA (cPol ⟨a, b, c, d⟩)) w := by kernel_rfl
def bdPl (parts : Array (Nat × Value)) : Sem Value := Instr.build 29 parts
theorem bdPl_eq (parts : Array (Nat × Value)) : Instr.build 29 parts = bdPl parts := rfl
theorem bdPl_run (w : World) : (bdPl #[(1, .int .i64 1)]).run Try.prog w = .ok (.agg #[.int .i64 0, .int .i64 1, .int .i64 0, .int .i64 0]) w := by kernel_rfl
def ldVo (p : Value) : Sem Value := Instr.loadAt 32 p
theorem ldVo_eq (p : Value) : Instr.loadAt 32 p = ldVo p := rfl
theorem ldVo_run {w : World} {g : Nat} {id bl ver : Int} {p : Pol} {S : Sl} {T : TypeId} (h : w.heap[g]? = some (.cells (voL id bl p ver S) T (0, 0))) : (ldVo (.pointer (some ⟨g, 0, none⟩))).run Try.prog w = .ok (.agg (voL id bl p ver S)) w :=
  run_loadAt_mid w g 0 32 (voL id bl p ver S).toList _ (rangeAt_row h) Try.underlying32 rfl vo_size
/-- what a command makes of the state, either way -/
theorem one_step {n : Int} {s : St} (h : OneD n s) (hg : GoodS n s) (hn : 0 ≤ n) {p : Pol} (hp : InP p) :
    ∃ s2 e b, applyS s (cPol p) = (s2, e) ∧ OneD (n + 1) s2 ∧ GoodS (n + 1) s2 ∧ admitsP 2 [p] = b ∧
      ((b = true ∧ e = 0 ∧ (s2.vs 9).p = p ∧ (s2.vs 9).ver = (s.vs 9).ver + 1) ∨ (b = false ∧ e ≠ 0 ∧ s2 = s)) := by
  have hgg := (applyS_good hg hn (cPol_in hp)).1
  rcases h.step hn hp with ⟨h1, h2, h3⟩ | ⟨h1, e, h2, h3⟩
  · rw [h2] at hgg
    exact ⟨_, 0, true, h2, h3, hgg, h1, .inl ⟨rfl, rfl, by rw [setV_same], by rw [setV_same]⟩⟩
  · rw [h3] at hgg
    exact ⟨s, e, false, h3, ⟨h.d.mono (by omega), h.pk, h.cap, h.vol, h.oth⟩, hgg, h1, .inr ⟨rfl, h2, rfl⟩⟩

attribute [local go_sem ↓] bdCmd_eq
attribute [local go_sem ↓] bdPl_eq
attribute [local go_sem ↓] ldPol_eq
attribute [local go_sem ↓] ldVo_eq
attribute [local go_sem ↓] stVo_eq
set_option maxRecDepth 100000 in
set_option maxHeartbeats 8000000 in
theorem walk (A : Option Addr) (n cp : Nat) (l : List Pol) (bl : Int) (w : World) (hn : l.length = n) (hnc : n ≤ cp) (hcm : cp ≤ maxLen) (hs : PolsAt w A l) (hbl : (Lit.int .u8 bl).wf = true) :
    Calls Try.prog 6 #[.slice A n cp, .int .u8 bl] w fun e w' => e = .returned (.bool true) ∧ Below w.heap.size w w' := by
  by_cases h20 : 20 < n
  · have g1 : (20 : Int) < (n : Int) := by omega
    clear hn hs
    go_enter Try.func6, Try.ntmps6
    go_wp2_with (refine (VAwake _).mono ?_; rintro e w1 ⟨rfl, hb⟩)
    go_ret
    exact ⟨rfl, hb⟩
  · have g1 : ¬ (20 : Int) < (n : Int) := by omega
    have hn20 : n ≤ 20 := by omega
    obtain ⟨b0, b1⟩ := bounds_u8 hbl
    have wb : IntKind.i64.wrap bl = bl := IntWalk.i64_in _ ⟨by omega, by omega⟩
    obtain ⟨nb, hnb, nb1, nb2⟩ : ∃ nb : Int, 1 + bl % 60 = nb ∧ 1 ≤ nb ∧ nb ≤ 60 := ⟨1 + bl % 60, rfl, by omega, by omega⟩
    obtain ⟨s2, hmk, hone⟩ := mk2 (nb := nb) ⟨nb1, by omega⟩
    have hgs2 := (applyS_good goodP1 (by decide) (cP2_in (nb := nb) ⟨nb1, by omega⟩)).1
    rw [hmk] at hgs2
    have KN := Lib.hid (VNew w)
    have q1 := bdP1; have q2 := bdP2 nb; have q3 := bdPl_run
    have KA1 := Lib.hid fun W (h : StAt W w.heap.size st0) => VApply w.heap.size st0 cP1 W h (good0.ready (Int.le_refl 0) (by decide) cP1_in)
    rw [mk1] at KA1
    have KA2 := Lib.hid fun W (h : StAt W w.heap.size sP1) => VApply w.heap.size sP1 (cP2 nb) W h (goodP1.ready (by decide) (by decide) (cP2_in ⟨nb1, by omega⟩))
    rw [hmk] at KA2
    have Hs := Lib.hid hs; have Hn := Lib.hid hn; have Hone := Lib.hid hone; have Hgs2 := Lib.hid hgs2
    clear hs hn hone hgs2 hmk hbl h20
    go_enter Try.func6, Try.ntmps6
    go_wp2_with fail
    refine KN.out.mono ?_
    rintro e w1 ⟨rfl, hs1, hb1⟩
    have KA1' := Lib.hid (KA1.out w1 hs1)
    have Hb1 := Lib.hid hb1; have Hg1 := Lib.hid hs1.lt
    clear hs1 hb1
    go_wp2_with fail
    refine KA1'.out.mono ?_
    rintro e w2 ⟨rfl, hs2, ht2⟩
    have KA2' := Lib.hid (KA2.out w2 hs2)
    have Hb2 := Lib.hid (Hb1.out.trans (ht2.below (fun k e => by omega) Hb1.out.size))
    clear hs2 ht2
    go_wp2_with fail
    refine KA2'.out.mono ?_
    rintro e w3 ⟨rfl, hs3, ht3⟩
    have Hs3 := Lib.hid hs3; have Hb3 := Lib.hid (Hb2.out.trans (ht3.below (fun k e => by omega) Hb2.out.size))
    clear hs3 ht3 q1 q2 q3 hnb wb
    go_wp2
    go_loopw [6] (fun iv wr => ∃ (i : Nat) (s : St), i ≤ n ∧ iv = .int .i64 (i : Int) ∧ OneD (2 + (i : Int)) s ∧ GoodS (2 + (i : Int)) s ∧ StAt wr w.heap.size s ∧ Below w.heap.size w wr) (fun iv _ => n - (intOf iv).toNat)
    case atStart => exact ⟨0, s2, Nat.zero_le _, rfl, Hone.out, Hgs2.out, Hs3.out, Hb3.out⟩
    case round =>
      obtain ⟨wo, rfl⟩ : ∃ wo, wo = wr := ⟨_, rfl⟩
      obtain ⟨i, s, hin, rfl, ho, hgs, hst, hb⟩ := hrel
      have Ho := Lib.hid ho; have Hgs := Lib.hid hgs; have Hst := Lib.hid hst; have Hb := Lib.hid hb
      clear ho hgs hst hb
      by_cases hi : i < n
      · obtain ⟨ga, o, p, rfl, hx, hat⟩ := Hs.out.get (k := i) (by rw [Hn.out]; exact hi)
        have i0 : (0 : Int) ≤ (i : Int) := by omega
        have i1 : (i : Int) < (n : Int) := by omega
        have hin' : i ≤ 20 := by omega
        have hpin : InP p := hat.2.2.2.2
        have hfit := Hgs.out.d.fit (by omega)
        have KV := Lib.hid (VVolume_yes w.heap.size s 9 wo Hst.out hfit Ho.out.vol)
        obtain ⟨t2, er, b, hap, ho2, hgs2, hadm, hcase⟩ := one_step Ho.out Hgs.out (by omega) hpin
        have hfit2 := hgs2.d.fit (by omega)
        have KA := Lib.hid fun W (h : StAt W w.heap.size s) => VApply w.heap.size s (cPol p) W h (Hgs.out.ready (by omega) (by omega) (cPol_in hpin))
        rw [hap] at KA
        have KV2 := Lib.hid fun W (h : StAt W w.heap.size t2) => VVolume_yes w.heap.size t2 9 W h hfit2 ho2.vol
        have KP := Lib.hid fun W (h : StAt W w.heap.size t2) => Policies_any w.heap.size t2 0 W h hfit2
        rw [ho2.pols] at KP
        have Hat := Lib.hid hat; have Hpin := Lib.hid hpin; have Ho2 := Lib.hid ho2; have Hgs2' := Lib.hid hgs2; have Hadm := Lib.hid hadm; have Hcase := Lib.hid hcase
        have hi1 := hfit.vs 9 (by omega); have hi2 := hfit2.vs 9 (by omega)
        have Hp0 := Lib.hid hi1.p; have Hp2 := Lib.hid hi2.p
        have hv0 : 0 ≤ (s.vs 9).ver ∧ (s.vs 9).ver ≤ 35184372088832 := hi1.ver
        obtain ⟨x0, hx0⟩ : ∃ x, s.vs 9 = x := ⟨_, rfl⟩
        obtain ⟨x2, hx2⟩ : ∃ x, t2.vs 9 = x := ⟨_, rfl⟩
        have Hx0 := Lib.hid hx0; have Hx2 := Lib.hid hx2
        rw [hx0] at KV Hp0 hv0 Hcase
        rw [hx2] at KV2 KP Hp2 Hcase
        clear hat hpin ho2 hgs2 hadm hcase hap hfit hfit2 hx hi1 hi2 hx0 hx2
        go_wp2_with fail
        refine KV.out.mono ?_
        rintro e w4 ⟨⟨A0, n0, c0⟩, rfl, hown0, hb4⟩
        obtain ⟨p0, hp0⟩ : ∃ q, x0.p = q := ⟨_, rfl⟩
        obtain ⟨l0, hl0⟩ : ∃ q, x0.bl = q := ⟨_, rfl⟩
        obtain ⟨v0, hv0'⟩ : ∃ q, x0.ver = q := ⟨_, rfl⟩
        rw [hp0, hl0, hv0']
        rw [hp0] at Hp0
        rw [hv0'] at hv0 Hcase
        simp only at hown0 ⊢
        obtain ⟨v00, v01⟩ := hv0
        obtain ⟨w5, hw5⟩ : ∃ w5, w4.alloc (.cells #[.int .i64 0, .int .i64 0, .int .i64 0, .int .i64 0, .int .i64 0, .int .i64 0, .int .i64 0, .slice none 0 0] 32) = w5 := ⟨_, rfl⟩
        have hb5 : Below w4.heap.size w4 w5 := by rw [← hw5]; exact below_box _ _
        have hr5 : w5.heap[w4.heap.size]? = some (.cells #[.int .i64 0, .int .i64 0, .int .i64 0, .int .i64 0, .int .i64 0, .int .i64 0, .int .i64 0, .slice none 0 0] 32 (0, 0)) := by rw [← hw5]; exact heap_alloc_new _ _
        obtain ⟨w6, hst6, hr6, ht6⟩ := stVo_run hr5 rfl (9 : Int) l0 p0.re p0.we p0.li p0.bu v0 ⟨A0, n0, c0⟩
        simp only at hst6 hr6
        have hb46 : Below w4.heap.size w4 w6 := hb5.trans (ht6.below (fun k e => by omega) hb5.size)
        have hbo6 := hb4.trans (hb46.mono hb4.size)
        have Hb6 := Lib.hid (Hb.out.trans (hbo6.mono Hb.out.size))
        have KA' := Lib.hid (KA.out w6 (Hst.out.below hbo6))
        have Hr6 := Lib.hid hr6; have Hg4 := Lib.hid (show w.heap.size < w4.heap.size from Nat.lt_of_lt_of_le Hst.out.lt hb4.size)
        have Hown0 := Lib.hid (own_belowM hown0 hb46)
        have Hgo := Lib.hid (show w.heap.size < wo.heap.size from Hst.out.lt)
        have hld := ldPol_run (Hat.out.below Hb6.out)
        have q5 := bdP5 p.re p.we p.li p.bu
        clear hown0 hb4 hb5 hr5 hr6 ht6 hb46 hbo6
        go_wp2_with fail
        refine KA'.out.mono ?_
        rintro e w7 ⟨rfl, hst7, ht7⟩
        have Hb7 := Lib.hid (Hb6.out.trans (ht7.below (fun k e => by omega) Hb6.out.size))
        have Hr7 := Lib.hid (ht7.heap Hr6.out (fun e => by have := Hg4.out; omega))
        have Hown7 := Lib.hid (own_turnedM ht7 Hown0.out (fun k hk e => by have := (Hown0.out.lt k hk).1; have := Hgo.out; omega))
        have KV2' := Lib.hid (KV2.out w7 hst7); have Hst7 := Lib.hid hst7
        clear hst7 ht7 hld q5
        simp only
        go_wp2_with fail
        refine KV2'.out.mono ?_
        rintro e w8 ⟨⟨A1, n1, c1⟩, rfl, hown1, hb8⟩
        obtain ⟨p2, hp2⟩ : ∃ q, x2.p = q := ⟨_, rfl⟩
        obtain ⟨l2, hl2⟩ : ∃ q, x2.bl = q := ⟨_, rfl⟩
        obtain ⟨v2, hv2⟩ : ∃ q, x2.ver = q := ⟨_, rfl⟩
        rw [hp2, hl2, hv2]
        rw [hp2] at Hp2 KP Hcase
        rw [hv2] at Hcase
        simp only at hown1 ⊢
        obtain ⟨w9, hw9⟩ : ∃ w9, w8.alloc (.cells #[.int .i64 0, .int .i64 0, .int .i64 0, .int .i64 0, .int .i64 0, .int .i64 0, .int .i64 0, .slice none 0 0] 32) = w9 := ⟨_, rfl⟩
        have hb9 : Below w8.heap.size w8 w9 := by rw [← hw9]; exact below_box _ _
        have hr9 : w9.heap[w8.heap.size]? = some (.cells #[.int .i64 0, .int .i64 0, .int .i64 0, .int .i64 0, .int .i64 0, .int .i64 0, .int .i64 0, .slice none 0 0] 32 (0, 0)) := by rw [← hw9]; exact heap_alloc_new _ _
        obtain ⟨wB, hstB, hrB, htB⟩ := stVo_run hr9 rfl (9 : Int) l2 p2.re p2.we p2.li p2.bu v2 ⟨A1, n1, c1⟩
        simp only at hstB hrB
        have hb8B : Below w8.heap.size w8 wB := hb9.trans (htB.below (fun k e => by omega) hb9.size)
        have hb7B := hb8.trans (hb8B.mono hb8.size)
        have HbB := Lib.hid (Hb7.out.trans (hb7B.mono Hb7.out.size)); have HstB := Lib.hid (Hst7.out.below hb7B)
        have HrB := Lib.hid hrB; have Hr7B := Lib.hid (row_below Hr7.out hb7B); have Hown7B := Lib.hid (own_belowM Hown7.out hb7B); have Hown1 := Lib.hid (own_belowM hown1 hb8B)
        have KP' := Lib.hid (KP.out wB HstB.out)
        clear hown1 hb8 hb9 hr9 hrB htB hb8B hb7B
        go_wp2_with fail
        refine KP'.out.mono ?_
        rintro e wA ⟨Aq, cq, rfl, hownq, hbA⟩
        have hrz := row_below Hr7B.out hbA
        have hrn := row_below HrB.out hbA
        have hbwA := HbB.out.trans (hbA.mono HbB.out.size)
        have HbA := Lib.hid hbwA; have HstA := Lib.hid (HstB.out.below hbA)
        have ho7A := own_belowM Hown7B.out hbA
        have ho1A := own_belowM Hown1.out hbA
        have hpolq : ∃ gq, Aq = some ⟨gq, 0, none⟩ ∧ PolAt wA gq 0 p2 := by
          obtain ⟨gq, cap, hf, _, _⟩ := hownq.form (by simp)
          injection hf with hf1
          refine ⟨gq, hf1, ?_⟩
          subst hf1
          rcases own_seenM hownq with h0 | ⟨g', o', hA', hc'⟩
          · simp [polsV, polV] at h0
          · injection hA' with hA'
            injection hA' with h1 h2 _
            subst h1; subst h2
            exact ⟨hc' 0 _ rfl, hc' 1 _ rfl, hc' 2 _ rfl, hc' 3 _ rfl, Hp2.out⟩
        obtain ⟨gq, rfl, hpq⟩ := hpolq
        have hcq := own_capL hownq
        obtain ⟨hcq1, hcq2⟩ := hcq
        have hPn : PolAt wA w8.heap.size 2 p2 := ⟨row_cell hrn 2, row_cell hrn 3, row_cell hrn 4, row_cell hrn 5, Hp2.out⟩
        have hPp : PolAt wA ga (o + i * 4) p := Hat.out.below hbwA
        have Hc := Lib.hid (fun V (hv : Below wA.heap.size wA V) => (⟨ldPol_run (hpq.below hv), ldPol_run (hPn.below hv), ldPol_run (hPp.below hv), row_cell (row_below hrn hv) 6, row_cell (row_below hrz hv) 6, ldVo_run (p := p0) (S := ⟨A0, n0, c0⟩) (row_below hrz hv), ldVo_run (p := p2) (S := ⟨A1, n1, c1⟩) (row_below hrn hv)⟩ :
          (ldPol (.pointer (some ⟨gq, 0, none⟩))).run Try.prog V = .ok (.agg #[.int .i64 p2.re, .int .i64 p2.we, .int .i64 p2.li, .int .i64 p2.bu]) V ∧
          (ldPol (.pointer (some ⟨w8.heap.size, 2, none⟩))).run Try.prog V = .ok (.agg #[.int .i64 p2.re, .int .i64 p2.we, .int .i64 p2.li, .int .i64 p2.bu]) V ∧
          (ldPol (.pointer (some ⟨ga, o + i * 4, none⟩))).run Try.prog V = .ok (.agg #[.int .i64 p.re, .int .i64 p.we, .int .i64 p.li, .int .i64 p.bu]) V ∧
          V.cell? ⟨w8.heap.size, 6, none⟩ = some (.int .i64 v2) ∧ V.cell? ⟨w4.heap.size, 6, none⟩ = some (.int .i64 v0) ∧
          (ldVo (.pointer (some ⟨w4.heap.size, 0, none⟩))).run Try.prog V = .ok (.agg (voL 9 l0 p0 v0 ⟨A0, n0, c0⟩)) V ∧
          (ldVo (.pointer (some ⟨w8.heap.size, 0, none⟩))).run Try.prog V = .ok (.agg (voL 9 l2 p2 v2 ⟨A1, n1, c1⟩)) V))
        have hne1 := fun W => neqPol_run p2 p2 W
        rw [decide_eq_true (rfl : p2 = p2)] at hne1
        have hne2 := fun op x y W => eqGuard_pol op x y p2 p2 W
        simp only [Bool.not_true] at hne1
        have hown7 := Lib.hid ho7A; have hown1' := Lib.hid ho1A
        have Hl2 := Lib.hid hl2; have Hl0 := Lib.hid hl0; have Hv2 := Lib.hid hv2; have Hv0' := Lib.hid hv0'; have Hpp2 := Lib.hid hp2; have Hpp0 := Lib.hid hp0
        clear hownq hbA hrz hrn hbwA ho7A ho1A hpq hPn hPp hl2 hl0 hv2 hv0' hp2 hp0
        have q12 : (1 : Int) ≤ (cq : Int) := by simp at hcq1; omega
        go_upto_region 13 with fail
        rcases Hcase.out with ⟨rfl, rfl, hpe, hve⟩ | ⟨rfl, hee, hse⟩
        · obtain hpe' : p = p2 := hpe.symm
          clear hpe
          subst hpe'
          have v9 : IntKind.i64.wrap (v0 + 1) = v0 + 1 := IntWalk.i64_in _ ⟨by omega, by omega⟩
          have hve2 : (v2 != v0 + 1) = false := by rw [hve]; simp
          subst hve
          refine wp_region_held_drew (S := fun V => Below wA.heap.size wA V) (by kernel_rfl) ?_ (fun hHeld => ?_)
          · exact (Below.refl _ _).drew
          refine wpAnyH_take (i := 0) (v := ?v1) rfl (by kernel_rfl) (by kernel_rfl) (by kernel_rfl) (fun _ _ _ h => h) (Or.inl ⟨by rfl, ?hy1⟩) (by assumption) ?rest1
          case hy1 => (intro w' hS; obtain ⟨t1, t2, t3, t4, t5, t6, t7⟩ := Hc.out w' hS; (try simp only [List.getElem_toArray, List.getElem_cons_succ, List.getElem_cons_zero]); go_simp; try with_reducible rfl)
          try simp only [Act.put, List.setIfInBounds_toArray, List.set_cons_zero, List.set_cons_succ, List.getElem_toArray, List.getElem_cons_succ, List.getElem_cons_zero]
          refine wpAnyH_take (i := 1) (v := ?v2) rfl (by kernel_rfl) (by kernel_rfl) (by kernel_rfl) (fun _ _ _ h => h) (Or.inl ⟨by rfl, ?hy2⟩) (by assumption) ?rest2
          case hy2 => (intro w' hS; obtain ⟨t1, t2, t3, t4, t5, t6, t7⟩ := Hc.out w' hS; (try simp only [List.getElem_toArray, List.getElem_cons_succ, List.getElem_cons_zero]); go_simp; try with_reducible rfl)
          try simp only [Act.put, List.setIfInBounds_toArray, List.set_cons_zero, List.set_cons_succ, List.getElem_toArray, List.getElem_cons_succ, List.getElem_cons_zero]
          refine wpAnyH_take (i := 2) (v := ?v3) rfl (by kernel_rfl) (by kernel_rfl) (by kernel_rfl) (fun _ _ _ h => h) (Or.inl ⟨by rfl, ?hy3⟩) (by assumption) ?rest3
          case hy3 => (intro w' hS; obtain ⟨t1, t2, t3, t4, t5, t6, t7⟩ := Hc.out w' hS; (try simp only [List.getElem_toArray, List.getElem_cons_succ, List.getElem_cons_zero]); go_simp; try with_reducible rfl)
          try simp only [Act.put, List.setIfInBounds_toArray, List.set_cons_zero, List.set_cons_succ, List.getElem_toArray, List.getElem_cons_succ, List.getElem_cons_zero]
          refine wpAnyH_take (i := 3) (v := ?v4) rfl (by kernel_rfl) (by kernel_rfl) (by kernel_rfl) (fun _ _ _ h => h) (Or.inl ⟨by rfl, ?hy4⟩) (by assumption) ?rest4
          case hy4 => (intro w' hS; obtain ⟨t1, t2, t3, t4, t5, t6, t7⟩ := Hc.out w' hS; (try simp only [List.getElem_toArray, List.getElem_cons_succ, List.getElem_cons_zero]); go_simp; try with_reducible rfl)
          try simp only [Act.put, List.setIfInBounds_toArray, List.set_cons_zero, List.set_cons_succ, List.getElem_toArray, List.getElem_cons_succ, List.getElem_cons_zero]
          refine wpAnyH_take (i := 4) (v := ?v5) rfl (by kernel_rfl) (by kernel_rfl) (by kernel_rfl) (fun _ _ _ h => h) (Or.inl ⟨by rfl, ?hy5⟩) (by assumption) ?rest5
          case hy5 => (intro w' hS; obtain ⟨t1, t2, t3, t4, t5, t6, t7⟩ := Hc.out w' hS; (try simp only [List.getElem_toArray, List.getElem_cons_succ, List.getElem_cons_zero]); go_simp; try with_reducible rfl)
          try simp only [Act.put, List.setIfInBounds_toArray, List.set_cons_zero, List.set_cons_succ, List.getElem_toArray, List.getElem_cons_succ, List.getElem_cons_zero]
          refine wpAnyH_take (i := 5) (v := ?v6) rfl (by kernel_rfl) (by kernel_rfl) (by kernel_rfl) (fun _ _ _ h => h) (Or.inl ⟨by rfl, ?hy6⟩) (by assumption) ?rest6
          case hy6 => (intro w' hS; obtain ⟨t1, t2, t3, t4, t5, t6, t7⟩ := Hc.out w' hS; (try simp only [List.getElem_toArray, List.getElem_cons_succ, List.getElem_cons_zero]); go_simp; try with_reducible rfl)
          try simp only [Act.put, List.setIfInBounds_toArray, List.set_cons_zero, List.set_cons_succ, List.getElem_toArray, List.getElem_cons_succ, List.getElem_cons_zero]
          refine wpAnyH_take (i := 6) (v := ?v7) rfl (by kernel_rfl) (by kernel_rfl) (by kernel_rfl) (fun _ _ _ h => h) (Or.inl ⟨by rfl, ?hy7⟩) (by assumption) ?rest7
          case hy7 => (intro w' hS; obtain ⟨t1, t2, t3, t4, t5, t6, t7⟩ := Hc.out w' hS; (try simp only [List.getElem_toArray, List.getElem_cons_succ, List.getElem_cons_zero]); go_simp; try with_reducible rfl)
          try simp only [Act.put, List.setIfInBounds_toArray, List.set_cons_zero, List.set_cons_succ, List.getElem_toArray, List.getElem_cons_succ, List.getElem_cons_zero]
          refine wpAnyH_take (i := 7) (v := ?v8) rfl (by kernel_rfl) (by kernel_rfl) (by kernel_rfl) (fun _ _ _ h => h) (Or.inl ⟨by rfl, ?hy8⟩) (by assumption) ?rest8
          case hy8 => (intro w' hS; obtain ⟨t1, t2, t3, t4, t5, t6, t7⟩ := Hc.out w' hS; (try simp only [List.getElem_toArray, List.getElem_cons_succ, List.getElem_cons_zero]); go_simp; try with_reducible rfl)
          try simp only [Act.put, List.setIfInBounds_toArray, List.set_cons_zero, List.set_cons_succ, List.getElem_toArray, List.getElem_cons_succ, List.getElem_cons_zero]
          refine wpAnyH_take (i := 8) (v := ?v9) rfl (by kernel_rfl) (by kernel_rfl) (by kernel_rfl) (fun _ _ _ h => h) (Or.inl ⟨by rfl, ?hy9⟩) (by assumption) ?rest9
          case hy9 => (intro w' hS; obtain ⟨t1, t2, t3, t4, t5, t6, t7⟩ := Hc.out w' hS; (try simp only [List.getElem_toArray, List.getElem_cons_succ, List.getElem_cons_zero]); go_simp; try with_reducible rfl)
          try simp only [Act.put, List.setIfInBounds_toArray, List.set_cons_zero, List.set_cons_succ, List.getElem_toArray, List.getElem_cons_succ, List.getElem_cons_zero]
          refine wpAnyH_take (i := 9) (v := ?v10) rfl (by kernel_rfl) (by kernel_rfl) (by kernel_rfl) (fun _ _ _ h => h) (Or.inl ⟨by rfl, ?hy10⟩) (by assumption) ?rest10
          case hy10 => (intro w' hS; obtain ⟨t1, t2, t3, t4, t5, t6, t7⟩ := Hc.out w' hS; (try simp only [List.getElem_toArray, List.getElem_cons_succ, List.getElem_cons_zero]); go_simp; try with_reducible rfl)
          try simp only [Act.put, List.setIfInBounds_toArray, List.set_cons_zero, List.set_cons_succ, List.getElem_toArray, List.getElem_cons_succ, List.getElem_cons_zero]
          refine wpAnyH_take (i := 10) (v := ?v11) rfl (by kernel_rfl) (by kernel_rfl) (by kernel_rfl) (fun _ _ _ h => h) (Or.inl ⟨by rfl, ?hy11⟩) (by assumption) ?rest11
          case hy11 => (intro w' hS; obtain ⟨t1, t2, t3, t4, t5, t6, t7⟩ := Hc.out w' hS; (try simp only [List.getElem_toArray, List.getElem_cons_succ, List.getElem_cons_zero]); go_simp; try with_reducible rfl)
          try simp only [Act.put, List.setIfInBounds_toArray, List.set_cons_zero, List.set_cons_succ, List.getElem_toArray, List.getElem_cons_succ, List.getElem_cons_zero]
          refine wpAnyH_take (i := 11) (v := ?v12) rfl (by kernel_rfl) (by kernel_rfl) (by kernel_rfl) (fun _ _ _ h => h) (Or.inl ⟨by rfl, ?hy12⟩) (by assumption) ?rest12
          case hy12 => (intro w' hS; obtain ⟨t1, t2, t3, t4, t5, t6, t7⟩ := Hc.out w' hS; (try simp only [List.getElem_toArray, List.getElem_cons_succ, List.getElem_cons_zero]); go_simp; try with_reducible rfl)
          try simp only [Act.put, List.setIfInBounds_toArray, List.set_cons_zero, List.set_cons_succ, List.getElem_toArray, List.getElem_cons_succ, List.getElem_cons_zero]
          refine wpAnyH_take (i := 12) (v := ?v13) rfl (by kernel_rfl) (by kernel_rfl) (by kernel_rfl) (fun _ _ _ h => h) (Or.inl ⟨by rfl, ?hy13⟩) (by assumption) ?rest13
          case hy13 => (intro w' hS; obtain ⟨t1, t2, t3, t4, t5, t6, t7⟩ := Hc.out w' hS; (try simp only [List.getElem_toArray, List.getElem_cons_succ, List.getElem_cons_zero]); go_simp; try with_reducible rfl)
          try simp only [Act.put, List.setIfInBounds_toArray, List.set_cons_zero, List.set_cons_succ, List.getElem_toArray, List.getElem_cons_succ, List.getElem_cons_zero]
          refine wpAnyH_take (i := 13) (v := ?v14) rfl (by kernel_rfl) (by kernel_rfl) (by kernel_rfl) (fun _ _ _ h => h) (Or.inl ⟨by rfl, ?hy14⟩) (by assumption) ?rest14
          case hy14 => (intro w' hS; obtain ⟨t1, t2, t3, t4, t5, t6, t7⟩ := Hc.out w' hS; (try simp only [List.getElem_toArray, List.getElem_cons_succ, List.getElem_cons_zero]); go_simp; try with_reducible rfl)
          try simp only [Act.put, List.setIfInBounds_toArray, List.set_cons_zero, List.set_cons_succ, List.getElem_toArray, List.getElem_cons_succ, List.getElem_cons_zero]
          refine wpAnyH_take (i := 14) (v := ?v15) rfl (by kernel_rfl) (by kernel_rfl) (by kernel_rfl) (fun _ _ _ h => h) (Or.inl ⟨by rfl, ?hy15⟩) (by assumption) ?rest15
          case hy15 => (intro w' hS; obtain ⟨t1, t2, t3, t4, t5, t6, t7⟩ := Hc.out w' hS; (try simp only [List.getElem_toArray, List.getElem_cons_succ, List.getElem_cons_zero]); go_simp; try with_reducible rfl)
          try simp only [Act.put, List.setIfInBounds_toArray, List.set_cons_zero, List.set_cons_succ, List.getElem_toArray, List.getElem_cons_succ, List.getElem_cons_zero]
          refine wpAnyH_take (i := 15) (v := ?v16) rfl (by kernel_rfl) (by kernel_rfl) (by kernel_rfl) (fun _ _ _ h => h) (Or.inl ⟨by rfl, ?hy16⟩) (by assumption) ?rest16
          case hy16 => (intro w' hS; obtain ⟨t1, t2, t3, t4, t5, t6, t7⟩ := Hc.out w' hS; (try simp only [List.getElem_toArray, List.getElem_cons_succ, List.getElem_cons_zero]); go_simp; try with_reducible rfl)
          try simp only [Act.put, List.setIfInBounds_toArray, List.set_cons_zero, List.set_cons_succ, List.getElem_toArray, List.getElem_cons_succ, List.getElem_cons_zero]
          refine wpAnyH_take (i := 16) (v := ?v17) rfl (by kernel_rfl) (by kernel_rfl) (by kernel_rfl) (fun _ _ _ h => h) (Or.inl ⟨by rfl, ?hy17⟩) (by assumption) ?rest17
          case hy17 => (intro w' hS; obtain ⟨t1, t2, t3, t4, t5, t6, t7⟩ := Hc.out w' hS; (try simp only [List.getElem_toArray, List.getElem_cons_succ, List.getElem_cons_zero]); go_simp; try with_reducible rfl)
          try simp only [Act.put, List.setIfInBounds_toArray, List.set_cons_zero, List.set_cons_succ, List.getElem_toArray, List.getElem_cons_succ, List.getElem_cons_zero]
          refine wpAnyH_take (i := 17) (v := ?v18) rfl (by kernel_rfl) (by kernel_rfl) (by kernel_rfl) (fun _ _ _ h => h) (Or.inl ⟨by rfl, ?hy18⟩) (by assumption) ?rest18
          case hy18 => (intro w' hS; obtain ⟨t1, t2, t3, t4, t5, t6, t7⟩ := Hc.out w' hS; (try simp only [List.getElem_toArray, List.getElem_cons_succ, List.getElem_cons_zero]); go_simp; try with_reducible rfl)
          try simp only [Act.put, List.setIfInBounds_toArray, List.set_cons_zero, List.set_cons_succ, List.getElem_toArray, List.getElem_cons_succ, List.getElem_cons_zero]
          refine wpAnyH_take (i := 18) (v := ?v19) rfl (by kernel_rfl) (by kernel_rfl) (by kernel_rfl) (fun _ _ _ h => h) (Or.inl ⟨by rfl, ?hy19⟩) (by assumption) ?rest19
          case hy19 => (intro w' hS; obtain ⟨t1, t2, t3, t4, t5, t6, t7⟩ := Hc.out w' hS; (try simp only [List.getElem_toArray, List.getElem_cons_succ, List.getElem_cons_zero]); go_simp; try with_reducible rfl)
          try simp only [Act.put, List.setIfInBounds_toArray, List.set_cons_zero, List.set_cons_succ, List.getElem_toArray, List.getElem_cons_succ, List.getElem_cons_zero]
          refine wpAnyH_take (i := 19) (v := ?v20) rfl (by kernel_rfl) (by kernel_rfl) (by kernel_rfl) (fun _ _ _ h => h) (Or.inl ⟨by rfl, ?hy20⟩) (by assumption) ?rest20
          case hy20 => (intro w' hS; obtain ⟨t1, t2, t3, t4, t5, t6, t7⟩ := Hc.out w' hS; (try simp only [List.getElem_toArray, List.getElem_cons_succ, List.getElem_cons_zero]); go_simp; try with_reducible rfl)
          try simp only [Act.put, List.setIfInBounds_toArray, List.set_cons_zero, List.set_cons_succ, List.getElem_toArray, List.getElem_cons_succ, List.getElem_cons_zero]
          refine wpAnyH_take (i := 20) (v := ?v21) rfl (by kernel_rfl) (by kernel_rfl) (by kernel_rfl) (fun _ _ _ h => h) (Or.inl ⟨by rfl, ?hy21⟩) (by assumption) ?rest21
          case hy21 => (intro w' hS; obtain ⟨t1, t2, t3, t4, t5, t6, t7⟩ := Hc.out w' hS; (try simp only [List.getElem_toArray, List.getElem_cons_succ, List.getElem_cons_zero]); go_simp; try with_reducible rfl)
          try simp only [Act.put, List.setIfInBounds_toArray, List.set_cons_zero, List.set_cons_succ, List.getElem_toArray, List.getElem_cons_succ, List.getElem_cons_zero]
          refine wpAnyH_take (i := 21) (v := ?v22) rfl (by kernel_rfl) (by kernel_rfl) (by kernel_rfl) (fun _ _ _ h => h) (Or.inl ⟨by rfl, ?hy22⟩) (by assumption) ?rest22
          case hy22 => (intro w' hS; obtain ⟨t1, t2, t3, t4, t5, t6, t7⟩ := Hc.out w' hS; (try simp only [List.getElem_toArray, List.getElem_cons_succ, List.getElem_cons_zero]); go_simp; try with_reducible rfl)
          try simp only [Act.put, List.setIfInBounds_toArray, List.set_cons_zero, List.set_cons_succ, List.getElem_toArray, List.getElem_cons_succ, List.getElem_cons_zero]
          refine wpAnyH_take (i := 22) (v := ?v23) rfl (by kernel_rfl) (by kernel_rfl) (by kernel_rfl) (fun _ _ _ h => h) (Or.inl ⟨by rfl, ?hy23⟩) (by assumption) ?rest23
          case hy23 => (intro w' hS; obtain ⟨t1, t2, t3, t4, t5, t6, t7⟩ := Hc.out w' hS; (try simp only [List.getElem_toArray, List.getElem_cons_succ, List.getElem_cons_zero]); go_simp; try with_reducible rfl)
          try simp only [Act.put, List.setIfInBounds_toArray, List.set_cons_zero, List.set_cons_succ, List.getElem_toArray, List.getElem_cons_succ, List.getElem_cons_zero]
          refine wpAnyH_take (i := 23) (v := ?v24) rfl (by kernel_rfl) (by kernel_rfl) (by kernel_rfl) (fun _ _ _ h => h) (Or.inl ⟨by rfl, ?hy24⟩) (by assumption) ?rest24
          case hy24 => (intro w' hS; obtain ⟨t1, t2, t3, t4, t5, t6, t7⟩ := Hc.out w' hS; (try simp only [List.getElem_toArray, List.getElem_cons_succ, List.getElem_cons_zero]); go_simp; try with_reducible rfl)
          try simp only [Act.put, List.setIfInBounds_toArray, List.set_cons_zero, List.set_cons_succ, List.getElem_toArray, List.getElem_cons_succ, List.getElem_cons_zero]
          refine wpAnyH_take (i := 24) (v := ?v25) rfl (by kernel_rfl) (by kernel_rfl) (by kernel_rfl) (fun _ _ _ h => h) (Or.inl ⟨by rfl, ?hy25⟩) (by assumption) ?rest25
          case hy25 => (intro w' hS; obtain ⟨t1, t2, t3, t4, t5, t6, t7⟩ := Hc.out w' hS; (try simp only [List.getElem_toArray, List.getElem_cons_succ, List.getElem_cons_zero]); go_simp; try with_reducible rfl)
          try simp only [Act.put, List.setIfInBounds_toArray, List.set_cons_zero, List.set_cons_succ, List.getElem_toArray, List.getElem_cons_succ, List.getElem_cons_zero]
          refine wpAnyH_take (i := 25) (v := ?v26) rfl (by kernel_rfl) (by kernel_rfl) (by kernel_rfl) (fun _ _ _ h => h) (Or.inl ⟨by rfl, ?hy26⟩) (by assumption) ?rest26
          case hy26 => (intro w' hS; obtain ⟨t1, t2, t3, t4, t5, t6, t7⟩ := Hc.out w' hS; (try simp only [List.getElem_toArray, List.getElem_cons_succ, List.getElem_cons_zero]); go_simp; try with_reducible rfl)
          try simp only [Act.put, List.setIfInBounds_toArray, List.set_cons_zero, List.set_cons_succ, List.getElem_toArray, List.getElem_cons_succ, List.getElem_cons_zero]
          refine wpAnyH_take (i := 26) (v := ?v27) rfl (by kernel_rfl) (by kernel_rfl) (by kernel_rfl) (fun _ _ _ h => h) (Or.inl ⟨by rfl, ?hy27⟩) (by assumption) ?rest27
          case hy27 => (intro w' hS; obtain ⟨t1, t2, t3, t4, t5, t6, t7⟩ := Hc.out w' hS; (try simp only [List.getElem_toArray, List.getElem_cons_succ, List.getElem_cons_zero]); go_simp; try with_reducible rfl)
          try simp only [Act.put, List.setIfInBounds_toArray, List.set_cons_zero, List.set_cons_succ, List.getElem_toArray, List.getElem_cons_succ, List.getElem_cons_zero]
          refine wpAnyH_take (i := 27) (v := ?v28) rfl (by kernel_rfl) (by kernel_rfl) (by kernel_rfl) (fun _ _ _ h => h) (Or.inl ⟨by rfl, ?hy28⟩) (by assumption) ?rest28
          case hy28 => (intro w' hS; obtain ⟨t1, t2, t3, t4, t5, t6, t7⟩ := Hc.out w' hS; (try simp only [List.getElem_toArray, List.getElem_cons_succ, List.getElem_cons_zero]); go_simp; try with_reducible rfl)
          try simp only [Act.put, List.setIfInBounds_toArray, List.set_cons_zero, List.set_cons_succ, List.getElem_toArray, List.getElem_cons_succ, List.getElem_cons_zero]
          refine wpAnyH_take (i := 28) (v := ?v29) rfl (by kernel_rfl) (by kernel_rfl) (by kernel_rfl) (fun _ _ _ h => h) (Or.inl ⟨by rfl, ?hy29⟩) (by assumption) ?rest29
          case hy29 => (intro w' hS; obtain ⟨t1, t2, t3, t4, t5, t6, t7⟩ := Hc.out w' hS; (try simp only [List.getElem_toArray, List.getElem_cons_succ, List.getElem_cons_zero]); go_simp; try with_reducible rfl)
          try simp only [Act.put, List.setIfInBounds_toArray, List.set_cons_zero, List.set_cons_succ, List.getElem_toArray, List.getElem_cons_succ, List.getElem_cons_zero]
          refine wpAnyH_take (i := 29) (v := ?v30) rfl (by kernel_rfl) (by kernel_rfl) (by kernel_rfl) (fun _ _ _ h => h) (Or.inl ⟨by rfl, ?hy30⟩) (by assumption) ?rest30
          case hy30 => (intro w' hS; obtain ⟨t1, t2, t3, t4, t5, t6, t7⟩ := Hc.out w' hS; (try simp only [List.getElem_toArray, List.getElem_cons_succ, List.getElem_cons_zero]); go_simp; try with_reducible rfl)
          try simp only [Act.put, List.setIfInBounds_toArray, List.set_cons_zero, List.set_cons_succ, List.getElem_toArray, List.getElem_cons_succ, List.getElem_cons_zero]
          refine wpAnyH_take (i := 30) (v := ?v31) rfl (by kernel_rfl) (by kernel_rfl) (by kernel_rfl) (fun _ _ _ h => h) (Or.inl ⟨by rfl, ?hy31⟩) (by assumption) ?rest31
          case hy31 => (intro w' hS; obtain ⟨t1, t2, t3, t4, t5, t6, t7⟩ := Hc.out w' hS; (try simp only [List.getElem_toArray, List.getElem_cons_succ, List.getElem_cons_zero]); go_simp; try with_reducible rfl)
          try simp only [Act.put, List.setIfInBounds_toArray, List.set_cons_zero, List.set_cons_succ, List.getElem_toArray, List.getElem_cons_succ, List.getElem_cons_zero]
          refine wpAnyH_take (i := 31) (v := ?v32) rfl (by kernel_rfl) (by kernel_rfl) (by kernel_rfl) (fun _ _ _ h => h) (Or.inl ⟨by rfl, ?hy32⟩) (by assumption) ?rest32
          case hy32 => (intro w' hS; obtain ⟨t1, t2, t3, t4, t5, t6, t7⟩ := Hc.out w' hS; (try simp only [List.getElem_toArray, List.getElem_cons_succ, List.getElem_cons_zero]); go_simp; try with_reducible rfl)
          try simp only [Act.put, List.setIfInBounds_toArray, List.set_cons_zero, List.set_cons_succ, List.getElem_toArray, List.getElem_cons_succ, List.getElem_cons_zero]
          refine wpAnyH_take (i := 32) (v := ?v33) rfl (by kernel_rfl) (by kernel_rfl) (by kernel_rfl) (fun _ _ _ h => h) (Or.inl ⟨by rfl, ?hy33⟩) (by assumption) ?rest33
          case hy33 => (intro w' hS; obtain ⟨t1, t2, t3, t4, t5, t6, t7⟩ := Hc.out w' hS; (try simp only [List.getElem_toArray, List.getElem_cons_succ, List.getElem_cons_zero]); go_simp; try with_reducible rfl)
          try simp only [Act.put, List.setIfInBounds_toArray, List.set_cons_zero, List.set_cons_succ, List.getElem_toArray, List.getElem_cons_succ, List.getElem_cons_zero]
          refine wpAnyH_take (i := 33) (v := ?v34) rfl (by kernel_rfl) (by kernel_rfl) (by kernel_rfl) (fun _ _ _ h => h) (Or.inl ⟨by rfl, ?hy34⟩) (by assumption) ?rest34
          case hy34 => (intro w' hS; obtain ⟨t1, t2, t3, t4, t5, t6, t7⟩ := Hc.out w' hS; (try simp only [List.getElem_toArray, List.getElem_cons_succ, List.getElem_cons_zero]); go_simp; try with_reducible rfl)
          try simp only [Act.put, List.setIfInBounds_toArray, List.set_cons_zero, List.set_cons_succ, List.getElem_toArray, List.getElem_cons_succ, List.getElem_cons_zero]
          refine wpAnyH_take (i := 34) (v := ?v35) rfl (by kernel_rfl) (by kernel_rfl) (by kernel_rfl) (fun _ _ _ h => h) (Or.inl ⟨by rfl, ?hy35⟩) (by assumption) ?rest35
          case hy35 => (intro w' hS; obtain ⟨t1, t2, t3, t4, t5, t6, t7⟩ := Hc.out w' hS; (try simp only [List.getElem_toArray, List.getElem_cons_succ, List.getElem_cons_zero]); go_simp; try with_reducible rfl)
          try simp only [Act.put, List.setIfInBounds_toArray, List.set_cons_zero, List.set_cons_succ, List.getElem_toArray, List.getElem_cons_succ, List.getElem_cons_zero]
          refine wpAnyH_take (i := 35) (v := ?v36) rfl (by kernel_rfl) (by kernel_rfl) (by kernel_rfl) (fun _ _ _ h => h) (Or.inl ⟨by rfl, ?hy36⟩) (by assumption) ?rest36
          case hy36 => (intro w' hS; obtain ⟨t1, t2, t3, t4, t5, t6, t7⟩ := Hc.out w' hS; (try simp only [List.getElem_toArray, List.getElem_cons_succ, List.getElem_cons_zero]); go_simp; try with_reducible rfl)
          try simp only [Act.put, List.setIfInBounds_toArray, List.set_cons_zero, List.set_cons_succ, List.getElem_toArray, List.getElem_cons_succ, List.getElem_cons_zero]
          refine wpAnyH_take (i := 36) (v := undef) rfl (by kernel_rfl) (by kernel_rfl) (by kernel_rfl) (fun _ _ _ h => h) (Or.inr ⟨by rfl, rfl⟩) (by assumption) ?rest37
          try simp only [Act.put, List.setIfInBounds_toArray, List.set_cons_zero, List.set_cons_succ, List.getElem_toArray, List.getElem_cons_succ, List.getElem_cons_zero]
          refine wpAnyH_take (i := 37) (v := undef) rfl (by kernel_rfl) (by kernel_rfl) (by kernel_rfl) (fun _ _ _ h => h) (Or.inr ⟨by rfl, rfl⟩) (by assumption) ?rest38
          try simp only [Act.put, List.setIfInBounds_toArray, List.set_cons_zero, List.set_cons_succ, List.getElem_toArray, List.getElem_cons_succ, List.getElem_cons_zero]
          refine wpAnyH_take (i := 38) (v := undef) rfl (by kernel_rfl) (by kernel_rfl) (by kernel_rfl) (fun _ _ _ h => h) (Or.inr ⟨by rfl, rfl⟩) (by assumption) ?rest39
          try simp only [Act.put, List.setIfInBounds_toArray, List.set_cons_zero, List.set_cons_succ, List.getElem_toArray, List.getElem_cons_succ, List.getElem_cons_zero]
          refine wpAnyH_take (i := 39) (v := undef) rfl (by kernel_rfl) (by kernel_rfl) (by kernel_rfl) (fun _ _ _ h => h) (Or.inr ⟨by rfl, rfl⟩) (by assumption) ?rest40
          try simp only [Act.put, List.setIfInBounds_toArray, List.set_cons_zero, List.set_cons_succ, List.getElem_toArray, List.getElem_cons_succ, List.getElem_cons_zero]
          refine wpAnyH_take (i := 40) (v := ?v41) rfl (by kernel_rfl) (by kernel_rfl) (by kernel_rfl) (fun _ _ _ h => h) (Or.inl ⟨by rfl, ?hy41⟩) (by assumption) ?rest41
          case hy41 => (intro w' hS; obtain ⟨t1, t2, t3, t4, t5, t6, t7⟩ := Hc.out w' hS; (try simp only [List.getElem_toArray, List.getElem_cons_succ, List.getElem_cons_zero]); go_simp; try with_reducible rfl)
          try simp only [Act.put, List.setIfInBounds_toArray, List.set_cons_zero, List.set_cons_succ, List.getElem_toArray, List.getElem_cons_succ, List.getElem_cons_zero]
          refine wpAnyH_take (i := 41) (v := ?v42) rfl (by kernel_rfl) (by kernel_rfl) (by kernel_rfl) (fun _ _ _ h => h) (Or.inl ⟨by rfl, ?hy42⟩) (by assumption) ?rest42
          case hy42 => (intro w' hS; obtain ⟨t1, t2, t3, t4, t5, t6, t7⟩ := Hc.out w' hS; (try simp only [List.getElem_toArray, List.getElem_cons_succ, List.getElem_cons_zero]); go_simp; try with_reducible rfl)
          try simp only [Act.put, List.setIfInBounds_toArray, List.set_cons_zero, List.set_cons_succ, List.getElem_toArray, List.getElem_cons_succ, List.getElem_cons_zero]
          refine wpAnyH_take (i := 42) (v := ?v43) rfl (by kernel_rfl) (by kernel_rfl) (by kernel_rfl) (fun _ _ _ h => h) (Or.inl ⟨by rfl, ?hy43⟩) (by assumption) ?rest43
          case hy43 => (intro w' hS; obtain ⟨t1, t2, t3, t4, t5, t6, t7⟩ := Hc.out w' hS; (try simp only [List.getElem_toArray, List.getElem_cons_succ, List.getElem_cons_zero]); go_simp; try with_reducible rfl)
          try simp only [Act.put, List.setIfInBounds_toArray, List.set_cons_zero, List.set_cons_succ, List.getElem_toArray, List.getElem_cons_succ, List.getElem_cons_zero]
          refine wpAnyH_take (i := 43) (v := ?v44) rfl (by kernel_rfl) (by kernel_rfl) (by kernel_rfl) (fun _ _ _ h => h) (Or.inl ⟨by rfl, ?hy44⟩) (by assumption) ?rest44
          case hy44 => (intro w' hS; obtain ⟨t1, t2, t3, t4, t5, t6, t7⟩ := Hc.out w' hS; (try simp only [List.getElem_toArray, List.getElem_cons_succ, List.getElem_cons_zero]); go_simp; try with_reducible rfl)
          try simp only [Act.put, List.setIfInBounds_toArray, List.set_cons_zero, List.set_cons_succ, List.getElem_toArray, List.getElem_cons_succ, List.getElem_cons_zero]
          refine wpAnyH_take (i := 44) (v := ?v45) rfl (by kernel_rfl) (by kernel_rfl) (by kernel_rfl) (fun _ _ _ h => h) (Or.inl ⟨by rfl, ?hy45⟩) (by assumption) ?rest45
          case hy45 => (intro w' hS; obtain ⟨t1, t2, t3, t4, t5, t6, t7⟩ := Hc.out w' hS; (try simp only [List.getElem_toArray, List.getElem_cons_succ, List.getElem_cons_zero]); go_simp; try with_reducible rfl)
          try simp only [Act.put, List.setIfInBounds_toArray, List.set_cons_zero, List.set_cons_succ, List.getElem_toArray, List.getElem_cons_succ, List.getElem_cons_zero]
          refine wpAnyH_take (i := 45) (v := ?v46) rfl (by kernel_rfl) (by kernel_rfl) (by kernel_rfl) (fun _ _ _ h => h) (Or.inl ⟨by rfl, ?hy46⟩) (by assumption) ?rest46
          case hy46 => (intro w' hS; obtain ⟨t1, t2, t3, t4, t5, t6, t7⟩ := Hc.out w' hS; (try simp only [List.getElem_toArray, List.getElem_cons_succ, List.getElem_cons_zero]); go_simp; try with_reducible rfl)
          try simp only [Act.put, List.setIfInBounds_toArray, List.set_cons_zero, List.set_cons_succ, List.getElem_toArray, List.getElem_cons_succ, List.getElem_cons_zero]
          refine wpAnyH_take (i := 46) (v := ?v47) rfl (by kernel_rfl) (by kernel_rfl) (by kernel_rfl) (fun _ _ _ h => h) (Or.inl ⟨by rfl, ?hy47⟩) (by assumption) ?rest47
          case hy47 => (intro w' hS; obtain ⟨t1, t2, t3, t4, t5, t6, t7⟩ := Hc.out w' hS; (try simp only [List.getElem_toArray, List.getElem_cons_succ, List.getElem_cons_zero]); go_simp; try with_reducible rfl)
          try simp only [Act.put, List.setIfInBounds_toArray, List.set_cons_zero, List.set_cons_succ, List.getElem_toArray, List.getElem_cons_succ, List.getElem_cons_zero]
          refine wpAnyH_take (i := 47) (v := ?v48) rfl (by kernel_rfl) (by kernel_rfl) (by kernel_rfl) (fun _ _ _ h => h) (Or.inl ⟨by rfl, ?hy48⟩) (by assumption) ?rest48
          case hy48 => (intro w' hS; obtain ⟨t1, t2, t3, t4, t5, t6, t7⟩ := Hc.out w' hS; (try simp only [List.getElem_toArray, List.getElem_cons_succ, List.getElem_cons_zero]); go_simp; try with_reducible rfl)
          try simp only [Act.put, List.setIfInBounds_toArray, List.set_cons_zero, List.set_cons_succ, List.getElem_toArray, List.getElem_cons_succ, List.getElem_cons_zero]
          refine wpAnyH_take (i := 48) (v := ?v49) rfl (by kernel_rfl) (by kernel_rfl) (by kernel_rfl) (fun _ _ _ h => h) (Or.inl ⟨by rfl, ?hy49⟩) (by assumption) ?rest49
          case hy49 => (intro w' hS; obtain ⟨t1, t2, t3, t4, t5, t6, t7⟩ := Hc.out w' hS; (try simp only [List.getElem_toArray, List.getElem_cons_succ, List.getElem_cons_zero]); go_simp; try with_reducible rfl)
          try simp only [Act.put, List.setIfInBounds_toArray, List.set_cons_zero, List.set_cons_succ, List.getElem_toArray, List.getElem_cons_succ, List.getElem_cons_zero]
          obtain ⟨W1, hW1⟩ : ∃ W1, World.alloc wA.drew (.cells #[.int .i64 p.re, .int .i64 p.we, .int .i64 p.li, .int .i64 p.bu] 29) = W1 := ⟨_, rfl⟩
          have hbW : Below wA.heap.size wA W1 := by rw [← hW1]; exact (Below.refl wA.heap.size wA).drew.alloc (show wA.heap.size ≤ (World.heap wA.drew).size from (Below.refl wA.heap.size wA).drew.size) _
          have hrW : W1.heap[(World.heap wA.drew).size]? = some (.cells #[.int .i64 p.re, .int .i64 p.we, .int .i64 p.li, .int .i64 p.bu] 29 (0, 0)) := by rw [← hW1]; exact heap_alloc_new _ _
          have KAd := Lib.hid (Admits_any 2 _ 1 1 [p] W1 rfl (by unfold maxLen; omega) (pols_one hrW Hpin.out) (by unfold In64; omega))
          rw [Hadm.out] at KAd
          have HbW := Lib.hid hbW
          clear hbW hrW
          refine wpAnyH_ready (rs := [49]) (by kernel_rfl) (by simp) ?_
          refine AllReadyH.cons rfl (fun K hK => ?_) AllReadyH.nil
          (try simp only [List.getElem_toArray, List.getElem_cons_succ, List.getElem_cons_zero])
          go_simp
          try rw [hW1]
          refine hK.out _ _ ?_ (fun hHeld => ?_)
          · exact HbW.out
          clear hK K
          try simp only [Act.put, List.setIfInBounds_toArray, List.set_cons_zero, List.set_cons_succ, List.getElem_toArray, List.getElem_cons_succ, List.getElem_cons_zero]
          refine wpAnyH_ready (rs := [50]) (by kernel_rfl) (by simp) ?_
          refine AllReadyH.cons rfl (fun K hK => ?_) AllReadyH.nil
          (try simp only [List.getElem_toArray, List.getElem_cons_succ, List.getElem_cons_zero])
          go_simp
          refine KAd.out.mono ?_
          rintro e v9 ⟨rfl, hb9⟩
          have Hb9' := Lib.hid (HbW.out.trans (hb9.mono HbW.out.size))
          clear hb9
          refine hK.out _ _ ?_ (fun hHeld => ?_)
          · exact Hb9'.out
          clear hK K
          try simp only [Act.put, List.setIfInBounds_toArray, List.set_cons_zero, List.set_cons_succ, List.getElem_toArray, List.getElem_cons_succ, List.getElem_cons_zero]
          refine wpAnyH_take (i := 51) (v := ?v50) rfl (by kernel_rfl) (by kernel_rfl) (by kernel_rfl) (fun _ _ _ h => h) (Or.inl ⟨by rfl, ?hy50⟩) (by assumption) ?rest50
          case hy50 => (intro w' hS; obtain ⟨t1, t2, t3, t4, t5, t6, t7⟩ := Hc.out w' hS; (try simp only [List.getElem_toArray, List.getElem_cons_succ, List.getElem_cons_zero]); go_simp; try with_reducible rfl)
          try simp only [Act.put, List.setIfInBounds_toArray, List.set_cons_zero, List.set_cons_succ, List.getElem_toArray, List.getElem_cons_succ, List.getElem_cons_zero]
          refine wpAnyH_take (i := 52) (v := ?v51) rfl (by kernel_rfl) (by kernel_rfl) (by kernel_rfl) (fun _ _ _ h => h) (Or.inl ⟨by rfl, ?hy51⟩) (by assumption) ?rest51
          case hy51 => (intro w' hS; obtain ⟨t1, t2, t3, t4, t5, t6, t7⟩ := Hc.out w' hS; (try simp only [List.getElem_toArray, List.getElem_cons_succ, List.getElem_cons_zero]); go_simp; try with_reducible rfl)
          try simp only [Act.put, List.setIfInBounds_toArray, List.set_cons_zero, List.set_cons_succ, List.getElem_toArray, List.getElem_cons_succ, List.getElem_cons_zero]
          refine wpAnyH_done (by kernel_rfl) ?_ _
          go_wp2
          go_roundw
          case rel => exact ⟨i + 1, t2, by omega, by go_num, (by have := Ho2.out; rwa [show 2 + (i : Int) + 1 = 2 + ((i + 1 : Nat) : Int) by omega] at this), (by have := Hgs2'.out; rwa [show 2 + (i : Int) + 1 = 2 + ((i + 1 : Nat) : Int) by omega] at this), HstA.out.below Hb9'.out, HbA.out.trans (Hb9'.out.mono HbA.out.size)⟩
          case measure => simp [intOf]; omega
        · have hx : x2 = x0 := by rw [← Hx2.out, ← Hx0.out, hse]
          have hpe : p2 = p0 := by rw [← Hpp2.out, ← Hpp0.out, hx]
          have hle : l2 = l0 := by rw [← Hl2.out, ← Hl0.out, hx]
          have hve : v2 = v0 := by rw [← Hv2.out, ← Hv0'.out, hx]
          subst hpe; subst hle; subst hve
          have KSV := Lib.hid fun W (hb : Below wA.heap.size wA W) => VSameVolume 9 l2 v2 p2 ⟨A0, n0, c0⟩ ⟨A1, n1, c1⟩ (idsK x0.ks) W Hp0.out (by have := hown7.out.1; rw [numsV_length] at this; simpa using this) (by have := hown1'.out.1; rw [numsV_length, hx] at this; simpa using this) (Nat.le_trans (own_capL hown7.out).1 (own_capL hown7.out).2) ((own_seenM hown7.out).below hb) (by have := (own_seenM hown1'.out).below hb; rw [hx] at this; exact this)
          have ee1 : (er == 0) = false := by simpa using hee
          have ee2 : (er != 0) = true := by simpa using hee
          clear hx hse hee
          refine wp_region_held_drew (S := fun V => Below wA.heap.size wA V) (by kernel_rfl) ?_ (fun hHeld => ?_)
          · exact (Below.refl _ _).drew
          refine wpAnyH_take (i := 0) (v := ?v52) rfl (by kernel_rfl) (by kernel_rfl) (by kernel_rfl) (fun _ _ _ h => h) (Or.inl ⟨by rfl, ?hy52⟩) (by assumption) ?rest52
          case hy52 => (intro w' hS; obtain ⟨t1, t2, t3, t4, t5, t6, t7⟩ := Hc.out w' hS; (try simp only [List.getElem_toArray, List.getElem_cons_succ, List.getElem_cons_zero]); go_simp; try with_reducible rfl)
          try simp only [Act.put, List.setIfInBounds_toArray, List.set_cons_zero, List.set_cons_succ, List.getElem_toArray, List.getElem_cons_succ, List.getElem_cons_zero]
          refine wpAnyH_take (i := 1) (v := ?v53) rfl (by kernel_rfl) (by kernel_rfl) (by kernel_rfl) (fun _ _ _ h => h) (Or.inl ⟨by rfl, ?hy53⟩) (by assumption) ?rest53
          case hy53 => (intro w' hS; obtain ⟨t1, t2, t3, t4, t5, t6, t7⟩ := Hc.out w' hS; (try simp only [List.getElem_toArray, List.getElem_cons_succ, List.getElem_cons_zero]); go_simp; try with_reducible rfl)
          try simp only [Act.put, List.setIfInBounds_toArray, List.set_cons_zero, List.set_cons_succ, List.getElem_toArray, List.getElem_cons_succ, List.getElem_cons_zero]
          refine wpAnyH_take (i := 2) (v := ?v54) rfl (by kernel_rfl) (by kernel_rfl) (by kernel_rfl) (fun _ _ _ h => h) (Or.inl ⟨by rfl, ?hy54⟩) (by assumption) ?rest54
          case hy54 => (intro w' hS; obtain ⟨t1, t2, t3, t4, t5, t6, t7⟩ := Hc.out w' hS; (try simp only [List.getElem_toArray, List.getElem_cons_succ, List.getElem_cons_zero]); go_simp; try with_reducible rfl)
          try simp only [Act.put, List.setIfInBounds_toArray, List.set_cons_zero, List.set_cons_succ, List.getElem_toArray, List.getElem_cons_succ, List.getElem_cons_zero]
          refine wpAnyH_take (i := 3) (v := ?v55) rfl (by kernel_rfl) (by kernel_rfl) (by kernel_rfl) (fun _ _ _ h => h) (Or.inl ⟨by rfl, ?hy55⟩) (by assumption) ?rest55
          case hy55 => (intro w' hS; obtain ⟨t1, t2, t3, t4, t5, t6, t7⟩ := Hc.out w' hS; (try simp only [List.getElem_toArray, List.getElem_cons_succ, List.getElem_cons_zero]); go_simp; try with_reducible rfl)
          try simp only [Act.put, List.setIfInBounds_toArray, List.set_cons_zero, List.set_cons_succ, List.getElem_toArray, List.getElem_cons_succ, List.getElem_cons_zero]
          refine wpAnyH_take (i := 4) (v := ?v56) rfl (by kernel_rfl) (by kernel_rfl) (by kernel_rfl) (fun _ _ _ h => h) (Or.inl ⟨by rfl, ?hy56⟩) (by assumption) ?rest56
          case hy56 => (intro w' hS; obtain ⟨t1, t2, t3, t4, t5, t6, t7⟩ := Hc.out w' hS; (try simp only [List.getElem_toArray, List.getElem_cons_succ, List.getElem_cons_zero]); go_simp; try with_reducible rfl)
          try simp only [Act.put, List.setIfInBounds_toArray, List.set_cons_zero, List.set_cons_succ, List.getElem_toArray, List.getElem_cons_succ, List.getElem_cons_zero]
          refine wpAnyH_take (i := 5) (v := ?v57) rfl (by kernel_rfl) (by kernel_rfl) (by kernel_rfl) (fun _ _ _ h => h) (Or.inl ⟨by rfl, ?hy57⟩) (by assumption) ?rest57
          case hy57 => (intro w' hS; obtain ⟨t1, t2, t3, t4, t5, t6, t7⟩ := Hc.out w' hS; (try simp only [List.getElem_toArray, List.getElem_cons_succ, List.getElem_cons_zero]); go_simp; try with_reducible rfl)
          try simp only [Act.put, List.setIfInBounds_toArray, List.set_cons_zero, List.set_cons_succ, List.getElem_toArray, List.getElem_cons_succ, List.getElem_cons_zero]
          refine wpAnyH_take (i := 6) (v := ?v58) rfl (by kernel_rfl) (by kernel_rfl) (by kernel_rfl) (fun _ _ _ h => h) (Or.inl ⟨by rfl, ?hy58⟩) (by assumption) ?rest58
          case hy58 => (intro w' hS; obtain ⟨t1, t2, t3, t4, t5, t6, t7⟩ := Hc.out w' hS; (try simp only [List.getElem_toArray, List.getElem_cons_succ, List.getElem_cons_zero]); go_simp; try with_reducible rfl)
          try simp only [Act.put, List.setIfInBounds_toArray, List.set_cons_zero, List.set_cons_succ, List.getElem_toArray, List.getElem_cons_succ, List.getElem_cons_zero]
          refine wpAnyH_take (i := 7) (v := ?v59) rfl (by kernel_rfl) (by kernel_rfl) (by kernel_rfl) (fun _ _ _ h => h) (Or.inl ⟨by rfl, ?hy59⟩) (by assumption) ?rest59
          case hy59 => (intro w' hS; obtain ⟨t1, t2, t3, t4, t5, t6, t7⟩ := Hc.out w' hS; (try simp only [List.getElem_toArray, List.getElem_cons_succ, List.getElem_cons_zero]); go_simp; try with_reducible rfl)
          try simp only [Act.put, List.setIfInBounds_toArray, List.set_cons_zero, List.set_cons_succ, List.getElem_toArray, List.getElem_cons_succ, List.getElem_cons_zero]
          refine wpAnyH_take (i := 8) (v := ?v60) rfl (by kernel_rfl) (by kernel_rfl) (by kernel_rfl) (fun _ _ _ h => h) (Or.inl ⟨by rfl, ?hy60⟩) (by assumption) ?rest60
          case hy60 => (intro w' hS; obtain ⟨t1, t2, t3, t4, t5, t6, t7⟩ := Hc.out w' hS; (try simp only [List.getElem_toArray, List.getElem_cons_succ, List.getElem_cons_zero]); go_simp; try with_reducible rfl)
          try simp only [Act.put, List.setIfInBounds_toArray, List.set_cons_zero, List.set_cons_succ, List.getElem_toArray, List.getElem_cons_succ, List.getElem_cons_zero]
          refine wpAnyH_take (i := 9) (v := ?v61) rfl (by kernel_rfl) (by kernel_rfl) (by kernel_rfl) (fun _ _ _ h => h) (Or.inl ⟨by rfl, ?hy61⟩) (by assumption) ?rest61
          case hy61 => (intro w' hS; obtain ⟨t1, t2, t3, t4, t5, t6, t7⟩ := Hc.out w' hS; (try simp only [List.getElem_toArray, List.getElem_cons_succ, List.getElem_cons_zero]); go_simp; try with_reducible rfl)
          try simp only [Act.put, List.setIfInBounds_toArray, List.set_cons_zero, List.set_cons_succ, List.getElem_toArray, List.getElem_cons_succ, List.getElem_cons_zero]
          refine wpAnyH_take (i := 10) (v := ?v62) rfl (by kernel_rfl) (by kernel_rfl) (by kernel_rfl) (fun _ _ _ h => h) (Or.inl ⟨by rfl, ?hy62⟩) (by assumption) ?rest62
          case hy62 => (intro w' hS; obtain ⟨t1, t2, t3, t4, t5, t6, t7⟩ := Hc.out w' hS; (try simp only [List.getElem_toArray, List.getElem_cons_succ, List.getElem_cons_zero]); go_simp; try with_reducible rfl)
          try simp only [Act.put, List.setIfInBounds_toArray, List.set_cons_zero, List.set_cons_succ, List.getElem_toArray, List.getElem_cons_succ, List.getElem_cons_zero]
          refine wpAnyH_take (i := 11) (v := ?v63) rfl (by kernel_rfl) (by kernel_rfl) (by kernel_rfl) (fun _ _ _ h => h) (Or.inl ⟨by rfl, ?hy63⟩) (by assumption) ?rest63
          case hy63 => (intro w' hS; obtain ⟨t1, t2, t3, t4, t5, t6, t7⟩ := Hc.out w' hS; (try simp only [List.getElem_toArray, List.getElem_cons_succ, List.getElem_cons_zero]); go_simp; try with_reducible rfl)
          try simp only [Act.put, List.setIfInBounds_toArray, List.set_cons_zero, List.set_cons_succ, List.getElem_toArray, List.getElem_cons_succ, List.getElem_cons_zero]
          refine wpAnyH_take (i := 12) (v := ?v64) rfl (by kernel_rfl) (by kernel_rfl) (by kernel_rfl) (fun _ _ _ h => h) (Or.inl ⟨by rfl, ?hy64⟩) (by assumption) ?rest64
          case hy64 => (intro w' hS; obtain ⟨t1, t2, t3, t4, t5, t6, t7⟩ := Hc.out w' hS; (try simp only [List.getElem_toArray, List.getElem_cons_succ, List.getElem_cons_zero]); go_simp; try with_reducible rfl)
          try simp only [Act.put, List.setIfInBounds_toArray, List.set_cons_zero, List.set_cons_succ, List.getElem_toArray, List.getElem_cons_succ, List.getElem_cons_zero]
          refine wpAnyH_take (i := 13) (v := ?v65) rfl (by kernel_rfl) (by kernel_rfl) (by kernel_rfl) (fun _ _ _ h => h) (Or.inl ⟨by rfl, ?hy65⟩) (by assumption) ?rest65
          case hy65 => (intro w' hS; obtain ⟨t1, t2, t3, t4, t5, t6, t7⟩ := Hc.out w' hS; (try simp only [List.getElem_toArray, List.getElem_cons_succ, List.getElem_cons_zero]); go_simp; try with_reducible rfl)
          try simp only [Act.put, List.setIfInBounds_toArray, List.set_cons_zero, List.set_cons_succ, List.getElem_toArray, List.getElem_cons_succ, List.getElem_cons_zero]
          refine wpAnyH_take (i := 14) (v := ?v66) rfl (by kernel_rfl) (by kernel_rfl) (by kernel_rfl) (fun _ _ _ h => h) (Or.inl ⟨by rfl, ?hy66⟩) (by assumption) ?rest66
          case hy66 => (intro w' hS; obtain ⟨t1, t2, t3, t4, t5, t6, t7⟩ := Hc.out w' hS; (try simp only [List.getElem_toArray, List.getElem_cons_succ, List.getElem_cons_zero]); go_simp; try with_reducible rfl)
          try simp only [Act.put, List.setIfInBounds_toArray, List.set_cons_zero, List.set_cons_succ, List.getElem_toArray, List.getElem_cons_succ, List.getElem_cons_zero]
          refine wpAnyH_take (i := 15) (v := undef) rfl (by kernel_rfl) (by kernel_rfl) (by kernel_rfl) (fun _ _ _ h => h) (Or.inr ⟨by rfl, rfl⟩) (by assumption) ?rest67
          try simp only [Act.put, List.setIfInBounds_toArray, List.set_cons_zero, List.set_cons_succ, List.getElem_toArray, List.getElem_cons_succ, List.getElem_cons_zero]
          refine wpAnyH_take (i := 16) (v := undef) rfl (by kernel_rfl) (by kernel_rfl) (by kernel_rfl) (fun _ _ _ h => h) (Or.inr ⟨by rfl, rfl⟩) (by assumption) ?rest68
          try simp only [Act.put, List.setIfInBounds_toArray, List.set_cons_zero, List.set_cons_succ, List.getElem_toArray, List.getElem_cons_succ, List.getElem_cons_zero]
          refine wpAnyH_take (i := 17) (v := undef) rfl (by kernel_rfl) (by kernel_rfl) (by kernel_rfl) (fun _ _ _ h => h) (Or.inr ⟨by rfl, rfl⟩) (by assumption) ?rest69
          try simp only [Act.put, List.setIfInBounds_toArray, List.set_cons_zero, List.set_cons_succ, List.getElem_toArray, List.getElem_cons_succ, List.getElem_cons_zero]
          refine wpAnyH_take (i := 18) (v := undef) rfl (by kernel_rfl) (by kernel_rfl) (by kernel_rfl) (fun _ _ _ h => h) (Or.inr ⟨by rfl, rfl⟩) (by assumption) ?rest70
          try simp only [Act.put, List.setIfInBounds_toArray, List.set_cons_zero, List.set_cons_succ, List.getElem_toArray, List.getElem_cons_succ, List.getElem_cons_zero]
          refine wpAnyH_take (i := 19) (v := undef) rfl (by kernel_rfl) (by kernel_rfl) (by kernel_rfl) (fun _ _ _ h => h) (Or.inr ⟨by rfl, rfl⟩) (by assumption) ?rest71
          try simp only [Act.put, List.setIfInBounds_toArray, List.set_cons_zero, List.set_cons_succ, List.getElem_toArray, List.getElem_cons_succ, List.getElem_cons_zero]
          refine wpAnyH_take (i := 20) (v := undef) rfl (by kernel_rfl) (by kernel_rfl) (by kernel_rfl) (fun _ _ _ h => h) (Or.inr ⟨by rfl, rfl⟩) (by assumption) ?rest72
          try simp only [Act.put, List.setIfInBounds_toArray, List.set_cons_zero, List.set_cons_succ, List.getElem_toArray, List.getElem_cons_succ, List.getElem_cons_zero]
          refine wpAnyH_take (i := 21) (v := undef) rfl (by kernel_rfl) (by kernel_rfl) (by kernel_rfl) (fun _ _ _ h => h) (Or.inr ⟨by rfl, rfl⟩) (by assumption) ?rest73
          try simp only [Act.put, List.setIfInBounds_toArray, List.set_cons_zero, List.set_cons_succ, List.getElem_toArray, List.getElem_cons_succ, List.getElem_cons_zero]
          refine wpAnyH_take (i := 22) (v := undef) rfl (by kernel_rfl) (by kernel_rfl) (by kernel_rfl) (fun _ _ _ h => h) (Or.inr ⟨by rfl, rfl⟩) (by assumption) ?rest74
          try simp only [Act.put, List.setIfInBounds_toArray, List.set_cons_zero, List.set_cons_succ, List.getElem_toArray, List.getElem_cons_succ, List.getElem_cons_zero]
          refine wpAnyH_take (i := 23) (v := undef) rfl (by kernel_rfl) (by kernel_rfl) (by kernel_rfl) (fun _ _ _ h => h) (Or.inr ⟨by rfl, rfl⟩) (by assumption) ?rest75
          try simp only [Act.put, List.setIfInBounds_toArray, List.set_cons_zero, List.set_cons_succ, List.getElem_toArray, List.getElem_cons_succ, List.getElem_cons_zero]
          refine wpAnyH_take (i := 24) (v := undef) rfl (by kernel_rfl) (by kernel_rfl) (by kernel_rfl) (fun _ _ _ h => h) (Or.inr ⟨by rfl, rfl⟩) (by assumption) ?rest76
          try simp only [Act.put, List.setIfInBounds_toArray, List.set_cons_zero, List.set_cons_succ, List.getElem_toArray, List.getElem_cons_succ, List.getElem_cons_zero]
          refine wpAnyH_take (i := 25) (v := undef) rfl (by kernel_rfl) (by kernel_rfl) (by kernel_rfl) (fun _ _ _ h => h) (Or.inr ⟨by rfl, rfl⟩) (by assumption) ?rest77
          try simp only [Act.put, List.setIfInBounds_toArray, List.set_cons_zero, List.set_cons_succ, List.getElem_toArray, List.getElem_cons_succ, List.getElem_cons_zero]
          refine wpAnyH_take (i := 26) (v := undef) rfl (by kernel_rfl) (by kernel_rfl) (by kernel_rfl) (fun _ _ _ h => h) (Or.inr ⟨by rfl, rfl⟩) (by assumption) ?rest78
          try simp only [Act.put, List.setIfInBounds_toArray, List.set_cons_zero, List.set_cons_succ, List.getElem_toArray, List.getElem_cons_succ, List.getElem_cons_zero]
          refine wpAnyH_take (i := 27) (v := undef) rfl (by kernel_rfl) (by kernel_rfl) (by kernel_rfl) (fun _ _ _ h => h) (Or.inr ⟨by rfl, rfl⟩) (by assumption) ?rest79
          try simp only [Act.put, List.setIfInBounds_toArray, List.set_cons_zero, List.set_cons_succ, List.getElem_toArray, List.getElem_cons_succ, List.getElem_cons_zero]
          refine wpAnyH_take (i := 28) (v := undef) rfl (by kernel_rfl) (by kernel_rfl) (by kernel_rfl) (fun _ _ _ h => h) (Or.inr ⟨by rfl, rfl⟩) (by assumption) ?rest80
          try simp only [Act.put, List.setIfInBounds_toArray, List.set_cons_zero, List.set_cons_succ, List.getElem_toArray, List.getElem_cons_succ, List.getElem_cons_zero]
          refine wpAnyH_take (i := 29) (v := undef) rfl (by kernel_rfl) (by kernel_rfl) (by kernel_rfl) (fun _ _ _ h => h) (Or.inr ⟨by rfl, rfl⟩) (by assumption) ?rest81
          try simp only [Act.put, List.setIfInBounds_toArray, List.set_cons_zero, List.set_cons_succ, List.getElem_toArray, List.getElem_cons_succ, List.getElem_cons_zero]
          refine wpAnyH_take (i := 30) (v := ?v82) rfl (by kernel_rfl) (by kernel_rfl) (by kernel_rfl) (fun _ _ _ h => h) (Or.inl ⟨by rfl, ?hy82⟩) (by assumption) ?rest82
          case hy82 => (intro w' hS; obtain ⟨t1, t2, t3, t4, t5, t6, t7⟩ := Hc.out w' hS; (try simp only [List.getElem_toArray, List.getElem_cons_succ, List.getElem_cons_zero]); go_simp; try with_reducible rfl)
          try simp only [Act.put, List.setIfInBounds_toArray, List.set_cons_zero, List.set_cons_succ, List.getElem_toArray, List.getElem_cons_succ, List.getElem_cons_zero]
          refine wpAnyH_take (i := 31) (v := ?v83) rfl (by kernel_rfl) (by kernel_rfl) (by kernel_rfl) (fun _ _ _ h => h) (Or.inl ⟨by rfl, ?hy83⟩) (by assumption) ?rest83
          case hy83 => (intro w' hS; obtain ⟨t1, t2, t3, t4, t5, t6, t7⟩ := Hc.out w' hS; (try simp only [List.getElem_toArray, List.getElem_cons_succ, List.getElem_cons_zero]); go_simp; try with_reducible rfl)
          try simp only [Act.put, List.setIfInBounds_toArray, List.set_cons_zero, List.set_cons_succ, List.getElem_toArray, List.getElem_cons_succ, List.getElem_cons_zero]
          refine wpAnyH_take (i := 32) (v := ?v84) rfl (by kernel_rfl) (by kernel_rfl) (by kernel_rfl) (fun _ _ _ h => h) (Or.inl ⟨by rfl, ?hy84⟩) (by assumption) ?rest84
          case hy84 => (intro w' hS; obtain ⟨t1, t2, t3, t4, t5, t6, t7⟩ := Hc.out w' hS; (try simp only [List.getElem_toArray, List.getElem_cons_succ, List.getElem_cons_zero]); go_simp; try with_reducible rfl)
          try simp only [Act.put, List.setIfInBounds_toArray, List.set_cons_zero, List.set_cons_succ, List.getElem_toArray, List.getElem_cons_succ, List.getElem_cons_zero]
          refine wpAnyH_take (i := 33) (v := ?v85) rfl (by kernel_rfl) (by kernel_rfl) (by kernel_rfl) (fun _ _ _ h => h) (Or.inl ⟨by rfl, ?hy85⟩) (by assumption) ?rest85
          case hy85 => (intro w' hS; obtain ⟨t1, t2, t3, t4, t5, t6, t7⟩ := Hc.out w' hS; (try simp only [List.getElem_toArray, List.getElem_cons_succ, List.getElem_cons_zero]); go_simp; try with_reducible rfl)
          try simp only [Act.put, List.setIfInBounds_toArray, List.set_cons_zero, List.set_cons_succ, List.getElem_toArray, List.getElem_cons_succ, List.getElem_cons_zero]
          refine wpAnyH_take (i := 34) (v := ?v86) rfl (by kernel_rfl) (by kernel_rfl) (by kernel_rfl) (fun _ _ _ h => h) (Or.inl ⟨by rfl, ?hy86⟩) (by assumption) ?rest86
          case hy86 => (intro w' hS; obtain ⟨t1, t2, t3, t4, t5, t6, t7⟩ := Hc.out w' hS; (try simp only [List.getElem_toArray, List.getElem_cons_succ, List.getElem_cons_zero]); go_simp; try with_reducible rfl)
          try simp only [Act.put, List.setIfInBounds_toArray, List.set_cons_zero, List.set_cons_succ, List.getElem_toArray, List.getElem_cons_succ, List.getElem_cons_zero]
          refine wpAnyH_take (i := 35) (v := ?v87) rfl (by kernel_rfl) (by kernel_rfl) (by kernel_rfl) (fun _ _ _ h => h) (Or.inl ⟨by rfl, ?hy87⟩) (by assumption) ?rest87
          case hy87 => (intro w' hS; obtain ⟨t1, t2, t3, t4, t5, t6, t7⟩ := Hc.out w' hS; (try simp only [List.getElem_toArray, List.getElem_cons_succ, List.getElem_cons_zero]); go_simp; try with_reducible rfl)
          try simp only [Act.put, List.setIfInBounds_toArray, List.set_cons_zero, List.set_cons_succ, List.getElem_toArray, List.getElem_cons_succ, List.getElem_cons_zero]
          refine wpAnyH_take (i := 36) (v := ?v88) rfl (by kernel_rfl) (by kernel_rfl) (by kernel_rfl) (fun _ _ _ h => h) (Or.inl ⟨by rfl, ?hy88⟩) (by assumption) ?rest88
          case hy88 => (intro w' hS; obtain ⟨t1, t2, t3, t4, t5, t6, t7⟩ := Hc.out w' hS; (try simp only [List.getElem_toArray, List.getElem_cons_succ, List.getElem_cons_zero]); go_simp; try with_reducible rfl)
          try simp only [Act.put, List.setIfInBounds_toArray, List.set_cons_zero, List.set_cons_succ, List.getElem_toArray, List.getElem_cons_succ, List.getElem_cons_zero]
          refine wpAnyH_take (i := 37) (v := ?v89) rfl (by kernel_rfl) (by kernel_rfl) (by kernel_rfl) (fun _ _ _ h => h) (Or.inl ⟨by rfl, ?hy89⟩) (by assumption) ?rest89
          case hy89 => (intro w' hS; obtain ⟨t1, t2, t3, t4, t5, t6, t7⟩ := Hc.out w' hS; (try simp only [List.getElem_toArray, List.getElem_cons_succ, List.getElem_cons_zero]); go_simp; try with_reducible rfl)
          try simp only [Act.put, List.setIfInBounds_toArray, List.set_cons_zero, List.set_cons_succ, List.getElem_toArray, List.getElem_cons_succ, List.getElem_cons_zero]
          refine wpAnyH_ready (rs := [38]) (by kernel_rfl) (by simp) ?_
          refine AllReadyH.cons rfl (fun K hK => ?_) AllReadyH.nil
          (try simp only [List.getElem_toArray, List.getElem_cons_succ, List.getElem_cons_zero])
          go_simp
          refine (KSV.out wA.drew (Below.refl _ _).drew).mono ?_
          rintro e v8 ⟨rfl, hb8⟩
          have Hb8 := Lib.hid ((Below.refl wA.heap.size wA).drew.trans hb8)
          clear hb8
          refine hK.out _ _ ?_ (fun hHeld => ?_)
          · exact Hb8.out
          clear hK K
          try simp only [Act.put, List.setIfInBounds_toArray, List.set_cons_zero, List.set_cons_succ, List.getElem_toArray, List.getElem_cons_succ, List.getElem_cons_zero]
          refine wpAnyH_take (i := 39) (v := ?v90) rfl (by kernel_rfl) (by kernel_rfl) (by kernel_rfl) (fun _ _ _ h => h) (Or.inl ⟨by rfl, ?hy90⟩) (by assumption) ?rest90
          case hy90 => (intro w' hS; obtain ⟨t1, t2, t3, t4, t5, t6, t7⟩ := Hc.out w' hS; (try simp only [List.getElem_toArray, List.getElem_cons_succ, List.getElem_cons_zero]); go_simp; try with_reducible rfl)
          try simp only [Act.put, List.setIfInBounds_toArray, List.set_cons_zero, List.set_cons_succ, List.getElem_toArray, List.getElem_cons_succ, List.getElem_cons_zero]
          refine wpAnyH_take (i := 40) (v := ?v91) rfl (by kernel_rfl) (by kernel_rfl) (by kernel_rfl) (fun _ _ _ h => h) (Or.inl ⟨by rfl, ?hy91⟩) (by assumption) ?rest91
          case hy91 => (intro w' hS; obtain ⟨t1, t2, t3, t4, t5, t6, t7⟩ := Hc.out w' hS; (try simp only [List.getElem_toArray, List.getElem_cons_succ, List.getElem_cons_zero]); go_simp; try with_reducible rfl)
          try simp only [Act.put, List.setIfInBounds_toArray, List.set_cons_zero, List.set_cons_succ, List.getElem_toArray, List.getElem_cons_succ, List.getElem_cons_zero]
          refine wpAnyH_take (i := 41) (v := ?v92) rfl (by kernel_rfl) (by kernel_rfl) (by kernel_rfl) (fun _ _ _ h => h) (Or.inl ⟨by rfl, ?hy92⟩) (by assumption) ?rest92
          case hy92 => (intro w' hS; obtain ⟨t1, t2, t3, t4, t5, t6, t7⟩ := Hc.out w' hS; (try simp only [List.getElem_toArray, List.getElem_cons_succ, List.getElem_cons_zero]); go_simp; try with_reducible rfl)
          try simp only [Act.put, List.setIfInBounds_toArray, List.set_cons_zero, List.set_cons_succ, List.getElem_toArray, List.getElem_cons_succ, List.getElem_cons_zero]
          refine wpAnyH_take (i := 42) (v := ?v93) rfl (by kernel_rfl) (by kernel_rfl) (by kernel_rfl) (fun _ _ _ h => h) (Or.inl ⟨by rfl, ?hy93⟩) (by assumption) ?rest93
          case hy93 => (intro w' hS; obtain ⟨t1, t2, t3, t4, t5, t6, t7⟩ := Hc.out w' hS; (try simp only [List.getElem_toArray, List.getElem_cons_succ, List.getElem_cons_zero]); go_simp; try with_reducible rfl)
          try simp only [Act.put, List.setIfInBounds_toArray, List.set_cons_zero, List.set_cons_succ, List.getElem_toArray, List.getElem_cons_succ, List.getElem_cons_zero]
          refine wpAnyH_take (i := 43) (v := ?v94) rfl (by kernel_rfl) (by kernel_rfl) (by kernel_rfl) (fun _ _ _ h => h) (Or.inl ⟨by rfl, ?hy94⟩) (by assumption) ?rest94
          case hy94 => (intro w' hS; obtain ⟨t1, t2, t3, t4, t5, t6, t7⟩ := Hc.out w' hS; (try simp only [List.getElem_toArray, List.getElem_cons_succ, List.getElem_cons_zero]); go_simp; try with_reducible rfl)
          try simp only [Act.put, List.setIfInBounds_toArray, List.set_cons_zero, List.set_cons_succ, List.getElem_toArray, List.getElem_cons_succ, List.getElem_cons_zero]
          refine wpAnyH_take (i := 44) (v := ?v95) rfl (by kernel_rfl) (by kernel_rfl) (by kernel_rfl) (fun _ _ _ h => h) (Or.inl ⟨by rfl, ?hy95⟩) (by assumption) ?rest95
          case hy95 => (intro w' hS; obtain ⟨t1, t2, t3, t4, t5, t6, t7⟩ := Hc.out w' hS; (try simp only [List.getElem_toArray, List.getElem_cons_succ, List.getElem_cons_zero]); go_simp; try with_reducible rfl)
          try simp only [Act.put, List.setIfInBounds_toArray, List.set_cons_zero, List.set_cons_succ, List.getElem_toArray, List.getElem_cons_succ, List.getElem_cons_zero]
          refine wpAnyH_take (i := 45) (v := ?v96) rfl (by kernel_rfl) (by kernel_rfl) (by kernel_rfl) (fun _ _ _ h => h) (Or.inl ⟨by rfl, ?hy96⟩) (by assumption) ?rest96
          case hy96 => (intro w' hS; obtain ⟨t1, t2, t3, t4, t5, t6, t7⟩ := Hc.out w' hS; (try simp only [List.getElem_toArray, List.getElem_cons_succ, List.getElem_cons_zero]); go_simp; try with_reducible rfl)
          try simp only [Act.put, List.setIfInBounds_toArray, List.set_cons_zero, List.set_cons_succ, List.getElem_toArray, List.getElem_cons_succ, List.getElem_cons_zero]
          refine wpAnyH_take (i := 46) (v := ?v97) rfl (by kernel_rfl) (by kernel_rfl) (by kernel_rfl) (fun _ _ _ h => h) (Or.inl ⟨by rfl, ?hy97⟩) (by assumption) ?rest97
          case hy97 => (intro w' hS; obtain ⟨t1, t2, t3, t4, t5, t6, t7⟩ := Hc.out w' hS; (try simp only [List.getElem_toArray, List.getElem_cons_succ, List.getElem_cons_zero]); go_simp; try with_reducible rfl)
          try simp only [Act.put, List.setIfInBounds_toArray, List.set_cons_zero, List.set_cons_succ, List.getElem_toArray, List.getElem_cons_succ, List.getElem_cons_zero]
          refine wpAnyH_take (i := 47) (v := ?v98) rfl (by kernel_rfl) (by kernel_rfl) (by kernel_rfl) (fun _ _ _ h => h) (Or.inl ⟨by rfl, ?hy98⟩) (by assumption) ?rest98
          case hy98 => (intro w' hS; obtain ⟨t1, t2, t3, t4, t5, t6, t7⟩ := Hc.out w' hS; (try simp only [List.getElem_toArray, List.getElem_cons_succ, List.getElem_cons_zero]); go_simp; try with_reducible rfl)
          try simp only [Act.put, List.setIfInBounds_toArray, List.set_cons_zero, List.set_cons_succ, List.getElem_toArray, List.getElem_cons_succ, List.getElem_cons_zero]
          refine wpAnyH_take (i := 48) (v := ?v99) rfl (by kernel_rfl) (by kernel_rfl) (by kernel_rfl) (fun _ _ _ h => h) (Or.inl ⟨by rfl, ?hy99⟩) (by assumption) ?rest99
          case hy99 => (intro w' hS; obtain ⟨t1, t2, t3, t4, t5, t6, t7⟩ := Hc.out w' hS; (try simp only [List.getElem_toArray, List.getElem_cons_succ, List.getElem_cons_zero]); go_simp; try with_reducible rfl)
          try simp only [Act.put, List.setIfInBounds_toArray, List.set_cons_zero, List.set_cons_succ, List.getElem_toArray, List.getElem_cons_succ, List.getElem_cons_zero]
          obtain ⟨W1, hW1⟩ : ∃ W1, World.alloc v8 (.cells #[.int .i64 p.re, .int .i64 p.we, .int .i64 p.li, .int .i64 p.bu] 29) = W1 := ⟨_, rfl⟩
          have hbW : Below wA.heap.size wA W1 := by rw [← hW1]; exact Hb8.out.alloc (show wA.heap.size ≤ (World.heap v8).size from Hb8.out.size) _
          have hrW : W1.heap[(World.heap v8).size]? = some (.cells #[.int .i64 p.re, .int .i64 p.we, .int .i64 p.li, .int .i64 p.bu] 29 (0, 0)) := by rw [← hW1]; exact heap_alloc_new _ _
          have KAd := Lib.hid (Admits_any 2 _ 1 1 [p] W1 rfl (by unfold maxLen; omega) (pols_one hrW Hpin.out) (by unfold In64; omega))
          rw [Hadm.out] at KAd
          have HbW := Lib.hid hbW
          clear hbW hrW
          refine wpAnyH_ready (rs := [49]) (by kernel_rfl) (by simp) ?_
          refine AllReadyH.cons rfl (fun K hK => ?_) AllReadyH.nil
          (try simp only [List.getElem_toArray, List.getElem_cons_succ, List.getElem_cons_zero])
          go_simp
          try rw [hW1]
          refine hK.out _ _ ?_ (fun hHeld => ?_)
          · exact HbW.out
          clear hK K
          try simp only [Act.put, List.setIfInBounds_toArray, List.set_cons_zero, List.set_cons_succ, List.getElem_toArray, List.getElem_cons_succ, List.getElem_cons_zero]
          refine wpAnyH_ready (rs := [50]) (by kernel_rfl) (by simp) ?_
          refine AllReadyH.cons rfl (fun K hK => ?_) AllReadyH.nil
          (try simp only [List.getElem_toArray, List.getElem_cons_succ, List.getElem_cons_zero])
          go_simp
          refine KAd.out.mono ?_
          rintro e v9 ⟨rfl, hb9⟩
          have Hb9' := Lib.hid (HbW.out.trans (hb9.mono HbW.out.size))
          clear hb9
          refine hK.out _ _ ?_ (fun hHeld => ?_)
          · exact Hb9'.out
          clear hK K
          try simp only [Act.put, List.setIfInBounds_toArray, List.set_cons_zero, List.set_cons_succ, List.getElem_toArray, List.getElem_cons_succ, List.getElem_cons_zero]
          refine wpAnyH_take (i := 51) (v := ?v100) rfl (by kernel_rfl) (by kernel_rfl) (by kernel_rfl) (fun _ _ _ h => h) (Or.inl ⟨by rfl, ?hy100⟩) (by assumption) ?rest100
          case hy100 => (intro w' hS; obtain ⟨t1, t2, t3, t4, t5, t6, t7⟩ := Hc.out w' hS; (try simp only [List.getElem_toArray, List.getElem_cons_succ, List.getElem_cons_zero]); go_simp; try with_reducible rfl)
          try simp only [Act.put, List.setIfInBounds_toArray, List.set_cons_zero, List.set_cons_succ, List.getElem_toArray, List.getElem_cons_succ, List.getElem_cons_zero]
          refine wpAnyH_take (i := 52) (v := ?v101) rfl (by kernel_rfl) (by kernel_rfl) (by kernel_rfl) (fun _ _ _ h => h) (Or.inl ⟨by rfl, ?hy101⟩) (by assumption) ?rest101
          case hy101 => (intro w' hS; obtain ⟨t1, t2, t3, t4, t5, t6, t7⟩ := Hc.out w' hS; (try simp only [List.getElem_toArray, List.getElem_cons_succ, List.getElem_cons_zero]); go_simp; try with_reducible rfl)
          try simp only [Act.put, List.setIfInBounds_toArray, List.set_cons_zero, List.set_cons_succ, List.getElem_toArray, List.getElem_cons_succ, List.getElem_cons_zero]
          refine wpAnyH_done (by kernel_rfl) ?_ _
          go_wp2
          go_roundw
          case rel => exact ⟨i + 1, t2, by omega, by go_num, (by have := Ho2.out; rwa [show 2 + (i : Int) + 1 = 2 + ((i + 1 : Nat) : Int) by omega] at this), (by have := Hgs2'.out; rwa [show 2 + (i : Int) + 1 = 2 + ((i + 1 : Nat) : Int) by omega] at this), HstA.out.below Hb9'.out, HbA.out.trans (Hb9'.out.mono HbA.out.size)⟩
          case measure => simp [intOf]; omega
      · obtain rfl : i = n := by omega
        have i1 : ¬ (i : Int) < (i : Int) := by omega
        go_wp2_with (go_at_call 8; refine (VAwake _).mono ?_; rintro e w6 ⟨rfl, hb6⟩; have Hb6 := Lib.hid (Hb.out.trans (hb6.mono Hb.out.size)); clear hb6)
        go_ret
        exact ⟨rfl, Hb6.out⟩

/-! ### THE ROW -/
theorem own : ownKnob Try.prog.godebug = none := by kernel_rfl

set_option maxRecDepth 100000 in
theorem lifted (os : Os) (started : os.Started) (H : Type) (enc : TypeId × Value → H) :
    ReturnsInHanded {} Try.checked os 6 .any (Rows.volumePoliciesSpec.pre6 enc Try.prog Try.f6 Rows.volumePoliciesRow.domain false) (Rows.volumePoliciesSpec.post enc Try.prog Try.f6 false true false false) := by
  refine returnsInHanded_of_change (C := Try.checked) own started (by kernel_rfl) Try.func6
    (ChangeSpec.witness6 (enc := enc) (C := Try.checked) false ⟨#[], #[.slice none 0 0, .int .u8 0], []⟩ 8 (by kernel_rfl) (by kernel_rfl) (by kernel_rfl) (by kernel_rfl)) ?_
  intro W base args ds gs before hval0 hW hcnd _
  have hval : ∀ (j : Nat) t v, Try.f6.params[j]? = some t → args[j]? = some v → Value.okWide Try.prog W .any base t v := hval0
  have hW' := hW
  obtain ⟨p, q, hA0, hV, rfl, hfz, hnd⟩ := hW
  have hA : DataW.TrodAll enc Try.prog W 0 (fun _ => true) true Try.f6.params.toList args.toList ds p := hA0
  rw [Try.params6] at hA hval
  obtain ⟨v0, vs0, d0, ds0, p0, q0, hargs, rfl, rfl, h0, r0⟩ := trodAll_cons hA
  obtain ⟨v1, vs1, d1, ds1, p1, q1, rfl, rfl, rfl, h1, r1⟩ := trodAll_cons r0
  obtain ⟨rfl, rfl, rfl⟩ := trodAll_nil r1
  obtain rfl : args = #[v0, v1] := by cases args; simp_all
  obtain ⟨rfl, rfl⟩ := trodVars_none hV
  obtain ⟨A0, n0, c0, fs0, rfl, hn0, hnc0, hcm0, hf0⟩ := open_pols Try.underlying44 Try.underlying29 rfl rfl rfl rfl rfl rfl rfl rfl Try.underlying3 Try.underlying3 Try.underlying3 Try.underlying3 (by kernel_rfl) (by kernel_rfl) (by kernel_rfl) (by kernel_rfl) (by kernel_rfl) (hval 0 44 v0 rfl rfl) h0
  obtain ⟨a1, rfl, rfl, rfl, w1⟩ := open_int Try.underlying5 (hval 1 5 v1 rfl rfl) h1
  refine (walk A0 n0 c0 fs0 a1 W hn0 hnc0 hcm0 hf0 w1).mono fun e W' ⟨he, hg⟩ => ?_
  subst he
  exact ⟨_, rfl, law_post hW' rfl (by kernel_rfl) (by kernel_rfl) (by kernel_rfl) Try.underlying4 rfl rfl rfl hg⟩

theorem over : Rows.volumePoliciesRow.holds Try.pinned (OpenSpec.ofChange Rows.volumePoliciesSpec) :=
  OpenClaim.holds_of_wide 6 Try.f6 rfl rfl rfl rfl rfl rfl rfl ⟨rfl, rfl, rfl, rfl, rfl⟩ rfl rfl rfl rfl rfl (by kernel_rfl) Try.func6 (by kernel_rfl)
    (of_decide_eq_true (by kernel_rfl)) (by unfold Func.isWrapper; first | (rw [if_pos (by decide +kernel)]; kernel_rfl) | (rw [if_neg (by decide +kernel)]; exact ⟨rfl, rfl⟩))
    (fun os started H enc _ => lifted os started H enc)

theorem proved : Rows.VolumePoliciesSaid :=
  over
#print axioms proved

end Go.Proofs.Ytcaaakoahaoooaa.VolumePolicies
