/-
  RhoTells: whatever is done, and whenever it is asked, what was done elsewhere is what the document says (of up to 100 events); it holds for every input, and the argument stays as it was. No condition.
-/
import Derived.Test.YtkfhocmnkamhlaaRhoA
import Derived.Test.YtkfhocmnkamhlaaRhoRef
import Derived.Test.YtkfhocmnkamhlaaQuietB
import Derived.Test.YtkfhocmnkamhlaaLaw
import Derived.Test.YtkfhocmnkamhlaaRows
import Derived.Test.YtkfhocmnkamhlaaChecked
import Derived.StillTailTactics
import Derived.IntWalk
namespace Go.Proofs.Ytkfhocmnkamhlaa.RhoTells
open Go.ChangeShapes Go.WideShapes Go.ChangeAt Go.RowKit Go.Maps
set_option linter.unusedVariables false

set_option maxRecDepth 100000 in
set_option maxHeartbeats 4000000 in
theorem walkIn (A : Option Addr) (n c : Nat) (l : List Ev) (w : World) (hn : l.length = n) (hnc : n ≤ c) (hcm : c ≤ maxLen) (hs : EvsAt w A l) (h100 : n ≤ 100) :
    Calls Try.prog 3 #[.slice A n c] w fun e w' => e = .returned (.bool true) ∧ Below w.heap.size w w' := by
  have Hn := Lib.hid hn; have Hs := Lib.hid hs
  clear hn hs
  unfold maxLen at hcm
  have h1 : ¬ (n : Int) > 100 := by omega
  obtain ⟨W1, hW1⟩ : ∃ W1, w.alloc (.cells #[.int .i64 0, .int .i64 0, .map none] 28) = W1 := ⟨_, rfl⟩
  have H1 := Lib.hid (show TrkAt W1 w.heap.size w.heap.size 0 none (0, 0) (fun _ => (0, 0)) by rw [← hW1]; exact new_trk w)
  have B1 := Lib.hid (show Below w.heap.size w W1 by rw [← hW1]; exact (Below.refl _ _).alloc (Nat.le_refl _) _)
  go_enter Try.func3, Try.ntmps3
  go_wp2
  clear hW1
  go_loopw [4] (fun iv wr => ∃ (i : Nat) (m : Option Nat) (t : Cn) (f : Int → Cn), iv = .int .i64 (i : Int) ∧ i ≤ n ∧ TrkAt wr w.heap.size w.heap.size (2 * i) m t f ∧ Tells (l.take i).reverse t f ∧ Below w.heap.size w wr) (fun iv _ => n - (intOf iv).toNat)
  case atStart => exact ⟨0, none, (0, 0), fun _ => (0, 0), rfl, by omega, H1.out, Tells.nil, B1.out⟩
  case round =>
    obtain ⟨i, m, t, f, rfl, hin, hh, htl, hb⟩ := hrel
    have Hh := Lib.hid hh; have Ht := Lib.hid htl; have Hb := Lib.hid hb
    clear hh htl hb
    by_cases hi : i < n
    · obtain ⟨g, o, ⟨sv, p⟩, rfl, hk, c0, c1, hb0, hb1⟩ := Hs.out.get (k := i) (by have := Hn.out; omega)
      simp only at c0 c1
      have hlt := block_lt_of_cell c0
      have e0 := (Hb.out.cell hlt).trans c0
      have e1 := (Hb.out.cell (block_lt_of_cell c1)).trans c1
      have i0 : (0 : Int) ≤ (i : Int) := by omega
      have i1 : (i : Int) < (n : Int) := by omega
      have Hc := Lib.hid (And.intro c0 c1)
      have Hb0 := Lib.hid hb0
      have Hrev := Lib.hid (take_rev hk)
      have L1 := Lib.hid (show (l.take i).length = i by rw [List.length_take]; have := Hn.out; omega)
      have L2 := Lib.hid (show (l.take (i + 1)).length = i + 1 by rw [List.length_take]; have := Hn.out; omega)
      clear hk hb0 hb1 c0 c1 hlt
      by_cases p0 : p = 0
      · subst p0
        have htb := Ht.out.beg sv
        obtain ⟨d, hd⟩ : ∃ d, t.1 - (f sv).1 = d := ⟨_, rfl⟩
        obtain ⟨r, hr⟩ : ∃ r, t.2 - (f sv).2 = r := ⟨_, rfl⟩
        have hd2 : ((begR sv false (l.take i).reverse : Nat) : Int) = d := by rw [← hd]; exact (congrArg Prod.fst htb).symm
        have hr2 : ((begR sv true (l.take i).reverse : Nat) : Int) = r := by rw [← hr]; exact (congrArg Prod.snd htb).symm
        have K1 := Lib.hid (show Calls _ _ _ _ _ from Begin_any w.heap.size w.heap.size (2 * i) m t f sv wr Hh.out Hb.out.size Hb0.out (by omega))
        unfold BeginRet at K1
        rw [hd, hr] at K1
        have htn := Ht.out.begun sv
        rw [← Hrev.out] at htn
        have T1 := Lib.hid (fun W (hW : EvsAt W (some ⟨g, o, none⟩) (l.take i)) => RBegin_any (some ⟨g, o, none⟩) i c (l.take i) sv false W L1.out hW (by omega))
        have T2 := Lib.hid (fun W (hW : EvsAt W (some ⟨g, o, none⟩) (l.take i)) => RBegin_any (some ⟨g, o, none⟩) i c (l.take i) sv true W L1.out hW (by omega))
        rw [hd2] at T1
        rw [hr2] at T2
        have t1 : ((totR false (l.take (i + 1)).reverse : Nat) : Int) = t.1 := by rw [htn.tot]
        have t2 : ((totR true (l.take (i + 1)).reverse : Nat) : Int) = t.2 := by rw [htn.tot]
        have U1 := Lib.hid (fun W (hW : EvsAt W (some ⟨g, o, none⟩) (l.take (i + 1))) => RTotal_any (some ⟨g, o, none⟩) (i + 1) c (l.take (i + 1)) false W L2.out hW (by omega))
        have U2 := Lib.hid (fun W (hW : EvsAt W (some ⟨g, o, none⟩) (l.take (i + 1))) => RTotal_any (some ⟨g, o, none⟩) (i + 1) c (l.take (i + 1)) true W L2.out hW (by omega))
        rw [t1] at U1
        rw [t2] at U2
        have Htn := Lib.hid htn
        clear htb hd hr hd2 hr2 htn t1 t2
        go_wp2_with (go_at_call 8; refine K1.out.mono ?_; rintro e w2 ⟨rfl, m2, h2, t2, -⟩; have H2 := Lib.hid h2; have B2 := Lib.hid (Hb.out.trans (Hh.out.over Hb.out.size t2)); clear h2 t2)
        have hEi : ∀ W, Below w.heap.size w W → EvsAt W (some ⟨g, o, none⟩) (l.take i) ∧ EvsAt W (some ⟨g, o, none⟩) (l.take (i + 1)) := fun W hW => ⟨(Hs.out.below hW).take _, (Hs.out.below hW).take _⟩
        have HE := Lib.hid hEi
        have hq : ∀ q : BelowOf w2, q.v.cell? ⟨g, o + i * 2, none⟩ = some (.int .i64 sv) := fun q => ((B2.out.trans (q.h.mono B2.out.size)).cell (block_lt_of_cell Hc.out.1)).trans Hc.out.1
        have Q1 := Lib.hid (fun q : BelowOf w2 => Calls.below_of (T1.out q.v (HE.out q.v (B2.out.trans (q.h.mono B2.out.size))).1))
        have Q2 := Lib.hid (fun q : BelowOf w2 => Calls.below_of (T2.out q.v (HE.out q.v (B2.out.trans (q.h.mono B2.out.size))).1))
        have ic : i ≤ c := by omega
        have ic1 : (i : Int) ≤ (c : Int) := by omega
        have ic2 : i + 1 ≤ c := by omega
        clear hEi e0 e1
        refine wp_region_quiet_below (by kernel_rfl) (by kernel_rfl) ?_
        repeat (quiet_step (fail))
        quiet_step (exact (Q1.out _))
        repeat (quiet_step (fail))
        quiet_step (exact (Q2.out _))
        repeat (quiet_step (fail))
        refine wpQuiet_nil ?_
        rintro w3 ⟨⟨_, hb3⟩, rfl⟩
        have B3 := Lib.hid (B2.out.trans (hb3.mono B2.out.size))
        have H3 := Lib.hid (H2.out.below hb3)
        clear hb3 hq
        go_wp2_with (first
          | (go_at_call 11; refine (Total_any w.heap.size w.heap.size (2 * i + 1) m2 t (updC f sv t) w3 H3.out).mono ?_; rintro e w4 ⟨rfl, b4⟩; have H4 := Lib.hid (H3.out.below b4); have B4 := Lib.hid (B3.out.trans (b4.mono B3.out.size)); clear b4)
          | (go_at_call 12; with_reducible refine (U2.out w5 (HE.out w5 B5.out).2).mono ?_; rintro e w6 ⟨rfl, b6⟩; have H6 := Lib.hid (H5.out.below b6); have B6 := Lib.hid (B5.out.trans (b6.mono B5.out.size)); clear b6)
          | (go_at_call 12; with_reducible refine (U1.out w4 (HE.out w4 B4.out).2).mono ?_; rintro e w5 ⟨rfl, b5⟩; have H5 := Lib.hid (H4.out.below b5); have B5 := Lib.hid (B4.out.trans (b5.mono B4.out.size)); clear b5))
        go_roundw
        case rel => exact ⟨i + 1, m2, t, updC f sv t, by go_num, by omega, H6.out.mono (by omega), Htn.out, B6.out⟩
        case measure => simp [intOf]; omega
      · have q0 : (p == 0) = false := by simpa using p0
        have htn := Ht.out.done sv p p0
        rw [← Hrev.out] at htn
        obtain ⟨t', htt⟩ : ∃ t', addC t (oneC p) = t' := ⟨_, rfl⟩
        obtain ⟨f', hff⟩ : ∃ f', updC f sv (addC (f sv) (oneC p)) = f' := ⟨_, rfl⟩
        have K1 := Lib.hid (show Calls _ _ _ _ _ from Done_any w.heap.size w.heap.size (2 * i) m t f sv p wr.drew (Hh.out.below (Below.refl _ _).drew) Hb.out.size Hb0.out (by omega))
        unfold DoneRet at K1
        rw [htt, hff] at K1 htn
        have t1 : ((totR false (l.take (i + 1)).reverse : Nat) : Int) = t'.1 := by rw [htn.tot]
        have t2 : ((totR true (l.take (i + 1)).reverse : Nat) : Int) = t'.2 := by rw [htn.tot]
        have U1 := Lib.hid (fun W (hW : EvsAt W (some ⟨g, o, none⟩) (l.take (i + 1))) => RTotal_any (some ⟨g, o, none⟩) (i + 1) c (l.take (i + 1)) false W L2.out hW (by omega))
        have U2 := Lib.hid (fun W (hW : EvsAt W (some ⟨g, o, none⟩) (l.take (i + 1))) => RTotal_any (some ⟨g, o, none⟩) (i + 1) c (l.take (i + 1)) true W L2.out hW (by omega))
        rw [t1] at U1
        rw [t2] at U2
        have Htn := Lib.hid htn
        have hEi : ∀ W, Below w.heap.size w W → EvsAt W (some ⟨g, o, none⟩) (l.take (i + 1)) := fun W hW => (Hs.out.below hW).take _
        have HE := Lib.hid hEi
        have ic2 : i + 1 ≤ c := by omega
        clear htn htt hff t1 t2 p0 hEi
        go_wp2_with fail
        go_still_tail 10, (by kernel_rfl)
        change wpList _ _ _ _ _ wr.drew
        go_wp2_with (first
          | (go_at_call 10; refine K1.out.mono ?_; rintro e w3 ⟨rfl, m2, h3, t3, -⟩; have H3 := Lib.hid h3; have B3 := Lib.hid (Hb.out.trans ((Below.refl _ _).drew.trans ((Hh.out.below (Below.refl _ _).drew).over Hb.out.size t3))); clear h3 t3)
          | (go_at_call 11; refine (Total_any w.heap.size w.heap.size (2 * i + 2) m2 t' f' w3 H3.out).mono ?_; rintro e w4 ⟨rfl, b4⟩; have H4 := Lib.hid (H3.out.below b4); have B4 := Lib.hid (B3.out.trans (b4.mono B3.out.size)); clear b4)
          | (go_at_call 12; with_reducible refine (U2.out w5 (HE.out w5 B5.out)).mono ?_; rintro e w6 ⟨rfl, b6⟩; have H6 := Lib.hid (H5.out.below b6); have B6 := Lib.hid (B5.out.trans (b6.mono B5.out.size)); clear b6)
          | (go_at_call 12; with_reducible refine (U1.out w4 (HE.out w4 B4.out)).mono ?_; rintro e w5 ⟨rfl, b5⟩; have H5 := Lib.hid (H4.out.below b5); have B5 := Lib.hid (B4.out.trans (b5.mono B4.out.size)); clear b5))
        go_roundw
        case rel => exact ⟨i + 1, m2, t', f', by go_num, by omega, H6.out.mono (by omega), Htn.out, B6.out⟩
        case measure => simp [intOf]; omega
    · obtain rfl : i = n := by omega
      have i1 : ¬ (i : Int) < (i : Int) := by omega
      go_wp2_with (go_at_call 7; refine (awake_any wr).mono ?_; rintro e w4 ⟨rfl, hb4⟩; have B4 := Lib.hid (Hb.out.trans (hb4.mono Hb.out.size)); clear hb4)
      go_ret
      exact ⟨rfl, B4.out⟩
theorem walk (A : Option Addr) (n c : Nat) (l : List Ev) (w : World) (hn : l.length = n) (hnc : n ≤ c) (hcm : c ≤ maxLen) (hs : EvsAt w A l) :
    Calls Try.prog 3 #[.slice A n c] w fun e w' => e = .returned (.bool true) ∧ Below w.heap.size w w' := by
  by_cases h1 : n ≤ 100
  · exact walkIn A n c l w hn hnc hcm hs h1
  · have h2 : (n : Int) > 100 := by omega
    go_enter Try.func3, Try.ntmps3
    go_wp2_with (go_at_call 7; refine (awake_any w).mono ?_; rintro e w4 ⟨rfl, hb4⟩; have B4 := Lib.hid hb4; clear hb4)
    go_ret
    exact ⟨rfl, B4.out⟩

/-! ### THE ROW -/
theorem own : ownKnob Try.prog.godebug = none := by kernel_rfl

set_option maxRecDepth 100000 in
theorem lifted (os : Os) (started : os.Started) (H : Type) (enc : TypeId × Value → H) :
    ReturnsInHanded {} Try.checked os 3 .any (Rows.rhoTellsSpec.pre6 enc Try.prog Try.f3 Rows.rhoTellsRow.domain false) (Rows.rhoTellsSpec.post enc Try.prog Try.f3 false true false false) := by
  refine returnsInHanded_of_change (C := Try.checked) own started (by kernel_rfl) Try.func3
    (ChangeSpec.witness6 (enc := enc) (C := Try.checked) false ⟨#[], #[.slice none 0 0], []⟩ 8 (by kernel_rfl) (by kernel_rfl) (by kernel_rfl) (by kernel_rfl)) ?_
  intro W base args ds gs before hval0 hW hcnd _
  have hval : ∀ (j : Nat) t v, Try.f3.params[j]? = some t → args[j]? = some v → Value.okWide Try.prog W .any base t v := hval0
  have hW' := hW
  obtain ⟨p, q, hA0, hV, rfl, hfz, hnd⟩ := hW
  have hA : DataW.TrodAll enc Try.prog W 0 (fun _ => true) true Try.f3.params.toList args.toList ds p := hA0
  rw [Try.params3] at hA hval
  obtain ⟨v0, vs0, d0, ds0, p0, q0, hargs, rfl, rfl, h0, r0⟩ := trodAll_cons hA
  obtain ⟨rfl, rfl, rfl⟩ := trodAll_nil r0
  obtain rfl : args = #[v0] := by cases args; simp_all
  obtain ⟨rfl, rfl⟩ := trodVars_none hV
  obtain ⟨A0, n0, c0, fs0, rfl, hn0, hnc0, hcm0, hf0⟩ := open_evs Try.underlying22 Try.underlying30 rfl rfl rfl rfl Try.underlying3 Try.underlying3 (by kernel_rfl) (by kernel_rfl) (by kernel_rfl) (hval 0 22 v0 rfl rfl) h0
  refine (walk A0 n0 c0 fs0 W hn0 hnc0 hcm0 hf0).mono fun e W' ⟨he, hg⟩ => ?_
  subst he
  exact ⟨_, rfl, law_post hW' rfl (by kernel_rfl) (by kernel_rfl) (by kernel_rfl) Try.underlying4 rfl rfl rfl hg⟩

theorem over : Rows.rhoTellsRow.holds Try.pinned (OpenSpec.ofChange Rows.rhoTellsSpec) :=
  OpenClaim.holds_of_wide 3 Try.f3 rfl rfl rfl rfl rfl rfl rfl ⟨rfl, rfl, rfl, rfl, rfl⟩ rfl rfl rfl rfl rfl (by kernel_rfl) Try.func3 (by kernel_rfl)
    (of_decide_eq_true (by kernel_rfl)) (by unfold Func.isWrapper; first | (rw [if_pos (by decide +kernel)]; kernel_rfl) | (rw [if_neg (by decide +kernel)]; exact ⟨rfl, rfl⟩))
    (fun os started H enc _ => lifted os started H enc)

theorem proved : Rows.RhoTellsSaid :=
  over
#print axioms proved

end Go.Proofs.Ytkfhocmnkamhlaa.RhoTells
