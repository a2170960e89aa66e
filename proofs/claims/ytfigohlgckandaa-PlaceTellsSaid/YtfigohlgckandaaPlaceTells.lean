/-
  PlaceTells: of any loads those are chosen that the document says, for every list of loads and every number of copies. No condition but what the row says.
-/
import Derived.Test.YtfigohlgckandaaPlcAwk
import Derived.Test.YtfigohlgckandaaRows
import Derived.Test.YtfigohlgckandaaLaw
import Derived.Test.YtfigohlgckandaaChecked
import Derived.Deep.Cut
namespace Go.Proofs.Ytfigohlgckandaa.PlaceTells
open Go.ChangeShapes Go.WideShapes Go.ChangeAt Go.RowKit Go.Sort Go.Proofs.Ytfigohlgckandaa
set_option linter.unusedVariables false

theorem want_cell {w : World} {B c : Nat} {A : Option Addr} {v : Int} (h : w.ownsRow B 3 1 (.slice A [v].length c) [v].length (numsV [v])) : ∃ g, A = some ⟨g, 0, none⟩ ∧ w.cell? ⟨g, 0, none⟩ = some (.int .i64 v) := by
  obtain ⟨g, cap, e, _, _⟩ := h.form (by simp)
  injection e with e
  refine ⟨g, e, ?_⟩
  subst e
  have := h.cells (g := g) rfl 0 (.int .i64 v) rfl
  rwa [Addr.add_lit] at this
theorem _root_.Go.RowKit.Below.cell3 {a b c : World} (h : Below b.heap.size b c) (k : Below a.heap.size a b) {p : Addr} {v : Value} (hc : a.cell? p = some v) : c.cell? p = some v := by
  have h1 := (k.cell (block_lt_of_cell hc)).trans hc
  exact (h.cell (block_lt_of_cell h1)).trans h1
set_option maxRecDepth 100000 in
set_option maxHeartbeats 4000000 in
theorem walk (A : Option Addr) (n c : Nat) (l : List Ent) (copies : Int) (w : World) (hn : l.length = n) (hnc : n ≤ c) (hcm : c ≤ maxLen) (hs : Seen w A (entsV l)) (hw : (Lit.int .i64 copies).wf = true) :
    Calls Try.prog 3 #[.slice A n c, .int .i64 copies] w fun e w' => e = .returned (.bool true) ∧ Below w.heap.size w w' := by
  by_cases h40 : 40 < n
  · have g1 : (40 : Int) < (n : Int) := by omega
    clear hs hn
    go_enter Try.func3, Try.ntmps3
    go_wp2_with (refine (awake_any _).mono ?_; rintro e w1 ⟨rfl, hb⟩)
    go_ret
    exact ⟨rfl, hb⟩
  · have g1 : ¬ (40 : Int) < (n : Int) := by omega
    have n0 : (0 : Int) ≤ (n : Int) := by omega
    have Hs := Lib.hid hs; have Hn := Lib.hid hn
    clear hs hn
    have KL := Lib.hid (PLeast A n c l w Hn.out (by omega) Hs.out)
    obtain ⟨R, hR⟩ : ∃ R, chooseF l copies = R := ⟨_, rfl⟩
    have HRl := Lib.hid (show R.length ≤ 40 by rw [← hR, chooseF_length, Hn.out]; omega)
    have KP := Lib.hid fun W (hb : Below w.heap.size w W) => (by have := PChoose A n c copies l W Hn.out (by omega) (Hs.out.below hb); rwa [hR] at this : Calls Try.prog 10 #[.slice A n c, .int .i64 copies] W (IntsRet R W))
    have KR := Lib.hid fun W (hb : Below w.heap.size w W) => (by have := RefChoose A n c copies l W Hn.out (by omega) (Hs.out.below hb); rwa [hR] at this : Calls Try.prog 8 #[.slice A n c, .int .i64 copies] W (IntsRet R W))
    have KO := Lib.hid fun W (hb : Below w.heap.size w W) => RefChoose A n c 1 l W Hn.out (by omega) (Hs.out.below hb)
    clear hR
    by_cases hne : l = []
    · have n1 : n = 0 := by rw [← Hn.out, hne]; rfl
      subst n1
      have KL2 := Lib.hid (show Calls Try.prog 7 #[.slice A 0 c] w fun e w' => e = .returned (.tuple #[.int .i64 0, .bool false]) ∧ Below w.heap.size w w' from KL.out.mono (by
        rintro e w' ⟨h | ⟨x, hx, _⟩, hb⟩
        · exact ⟨h.2, hb⟩
        · rw [hne] at hx; cases hx))
      clear hne
      go_enter Try.func3, Try.ntmps3
      go_upto_region 4 with (go_at_call 7; refine KL2.out.mono ?_; rintro e w1 ⟨rfl, hb⟩; have Hb1 := Lib.hid hb; clear hb)
      go_upto_region 5 with (go_at_call 8; refine (KO.out _ Hb1.out).mono ?_; rintro e w2 ⟨A2, c2, rfl, h2, b2⟩; have Hb2 := Lib.hid (Hb1.out.trans (b2.mono Hb1.out.size)); clear h2 b2)
      go_wp2_with (first
        | (go_at_call 6; refine (awake_any _).mono ?_; rintro e w6 ⟨rfl, hb6⟩; have Hb6 := Lib.hid (Hb5.out.trans (hb6.mono Hb5.out.size)); clear hb6)
        | (go_at_call 9; refine (SameInts_any _ _ _ _ _ _ R R w4 rfl rfl ((Seen.of_own H3.out).below B4.out) (Seen.of_own H4.out) (by have := HRl.out; unfold maxLen; omega)).mono ?_; rintro e w5 ⟨rfl, hb5⟩; simp only [decide_true]; have Hb5 := Lib.hid (Hb4.out.trans (hb5.mono Hb4.out.size)); clear hb5)
        | (go_at_call 8; refine (KR.out _ Hb3.out).mono ?_; rintro e w4 ⟨A4, c4, rfl, h4, b4⟩; have H4 := Lib.hid h4; have B4 := Lib.hid b4; have Hb4 := Lib.hid (Hb3.out.trans (b4.mono Hb3.out.size)); clear h4 b4)
        | (go_at_call 10; refine (KP.out _ Hb2.out).mono ?_; rintro e w3 ⟨A3, c3, rfl, h3, b3⟩; have H3 := Lib.hid h3; have B3 := Lib.hid b3; have Hb3 := Lib.hid (Hb2.out.trans (b3.mono Hb2.out.size)); clear h3 b3))
      go_ret
      exact ⟨rfl, Hb6.out⟩
    · have n1 : (0 : Int) < (n : Int) := by have := List.length_pos_iff.2 hne; rw [Hn.out] at this; omega
      obtain ⟨v, hv⟩ : ∃ v, chooseF l 1 = [v] := by
        have := chooseF_length l 1
        have h1 := List.length_pos_iff.2 hne
        rw [show (1 : Int).toNat = 1 from rfl, Nat.min_eq_left (by omega)] at this
        exact List.length_eq_one_iff.1 this
      have KL2 := Lib.hid (show Calls Try.prog 7 #[.slice A n c] w fun e w' => e = .returned (.tuple #[.int .i64 v, .bool true]) ∧ Below w.heap.size w w' from KL.out.mono (by
        rintro e w' ⟨h | ⟨x, hx, hm, rfl⟩, hb⟩
        · exact absurd h.1 hne
        · have h1 := chooseF_one hx hm
          rw [hv] at h1
          injection h1 with h1
          rw [h1]
          exact ⟨rfl, hb⟩))
      have Hv := Lib.hid hv
      clear hne hv
      go_enter Try.func3, Try.ntmps3
      go_upto_region 4 with (go_at_call 7; refine KL2.out.mono ?_; rintro e w1 ⟨rfl, hb⟩; have Hb1 := Lib.hid hb; clear hb)
      go_upto_region 5 with (go_at_call 8; refine (KO.out _ Hb1.out).mono ?_; rintro e w2 ⟨A2, c2, rfl, h2, b2⟩; have Hb2 := Lib.hid (Hb1.out.trans (b2.mono Hb1.out.size)); rw [Hv.out] at h2; have H2 := Lib.hid h2; simp only [Hv.out, List.length_singleton]; obtain ⟨g2, hA2, hc2⟩ := want_cell h2; subst hA2; have hc2' : 1 ≤ c2 := (own_capL h2).1; clear h2 b2)
      go_wp2_with (first
        | (go_at_call 6; refine (awake_any _).mono ?_; rintro e w6 ⟨rfl, hb6⟩; have Hb6 := Lib.hid (Hb5.out.trans (hb6.mono Hb5.out.size)); clear hb6)
        | (go_at_call 9; refine (SameInts_any _ _ _ _ _ _ R R w4 rfl rfl ((Seen.of_own H3.out).below B4.out) (Seen.of_own H4.out) (by have := HRl.out; unfold maxLen; omega)).mono ?_; rintro e w5 ⟨rfl, hb5⟩; simp only [decide_true]; have Hb5 := Lib.hid (Hb4.out.trans (hb5.mono Hb4.out.size)); (have hcell := (hb5.cell (block_lt_of_cell (B4.out.cell3 B3.out hc2)))); have C5 := hcell.trans (B4.out.cell3 B3.out hc2); clear hcell; clear hb5)
        | (go_at_call 8; refine (KR.out _ Hb3.out).mono ?_; rintro e w4 ⟨A4, c4, rfl, h4, b4⟩; have H4 := Lib.hid h4; have B4 := Lib.hid b4; have Hb4 := Lib.hid (Hb3.out.trans (b4.mono Hb3.out.size)); clear h4 b4)
        | (go_at_call 10; refine (KP.out _ Hb2.out).mono ?_; rintro e w3 ⟨A3, c3, rfl, h3, b3⟩; have H3 := Lib.hid h3; have B3 := Lib.hid b3; have Hb3 := Lib.hid (Hb2.out.trans (b3.mono Hb2.out.size)); clear h3 b3))
      go_ret
      exact ⟨rfl, Hb6.out⟩
/-! ### THE ROW -/
theorem own : ownKnob Try.prog.godebug = none := by kernel_rfl

set_option maxRecDepth 100000 in
theorem lifted (os : Os) (started : os.Started) (H : Type) (enc : TypeId × Value → H) :
    ReturnsInHanded {} Try.checked os 3 .any (Rows.placeTellsSpec.pre6 enc Try.prog Try.f3 Rows.placeTellsRow.domain false) (Rows.placeTellsSpec.post enc Try.prog Try.f3 false true false false) := by
  refine returnsInHanded_of_change (C := Try.checked) own started (by kernel_rfl) Try.func3
    (ChangeSpec.witness6 (enc := enc) (C := Try.checked) false ⟨#[], #[.slice none 0 0, .int .i64 0], []⟩ 8 (by kernel_rfl) (by kernel_rfl) (by kernel_rfl) (by kernel_rfl)) ?_
  intro W base args ds gs before hval0 hW hcnd _
  have hval : ∀ (j : Nat) t v, Try.f3.params[j]? = some t → args[j]? = some v → Value.okWide Try.prog W .any base t v := hval0
  have hW' := hW
  obtain ⟨p, q, hA0, hV, rfl, hfz, hnd⟩ := hW
  have hA : DataW.TrodAll enc Try.prog W 0 (fun _ => true) true Try.f3.params.toList args.toList ds p := hA0
  rw [Try.params3] at hA hval
  obtain ⟨v0, vs0, d0, ds0, p0, q0, hargs, rfl, rfl, h0, r0⟩ := trodAll_cons hA
  obtain ⟨v1, vs1, d1, ds1, p1, q1, rfl, rfl, rfl, h1, r1⟩ := trodAll_cons r0
  obtain ⟨rfl, rfl, rfl⟩ := trodAll_nil r1
  obtain rfl : args = #[v0, v1] := by cases args; simp_all
  obtain ⟨rfl, rfl⟩ := trodVars_none hV
  obtain ⟨A0, n0, c0, fs0, rfl, hn0, hnc0, hcm0, hf0⟩ := open_loads Try.underlying22 Try.underlying31 rfl rfl rfl rfl Try.underlying3 Try.underlying3 (by kernel_rfl) (by kernel_rfl) (by kernel_rfl) (hval 0 22 v0 rfl rfl) h0
  obtain ⟨a1, rfl, rfl, rfl, w1⟩ := open_int Try.underlying3 (hval 1 3 v1 rfl rfl) h1
  refine (walk A0 n0 c0 fs0 a1 W hn0 hnc0 hcm0 hf0 w1).mono fun e W' ⟨he, hg⟩ => ?_
  subst he
  exact ⟨_, rfl, law_post hW' rfl (by kernel_rfl) (by kernel_rfl) (by kernel_rfl) Try.underlying4 rfl rfl rfl hg⟩

theorem over : Rows.placeTellsRow.holds Try.pinned (OpenSpec.ofChange Rows.placeTellsSpec) :=
  OpenClaim.holds_of_wide 3 Try.f3 rfl rfl rfl rfl rfl rfl rfl ⟨rfl, rfl, rfl, rfl, rfl⟩ rfl rfl rfl rfl rfl (by kernel_rfl) Try.func3 (by kernel_rfl)
    (of_decide_eq_true (by kernel_rfl)) (by unfold Func.isWrapper; first | (rw [if_pos (by decide +kernel)]; kernel_rfl) | (rw [if_neg (by decide +kernel)]; exact ⟨rfl, rfl⟩))
    (fun os started H enc _ => lifted os started H enc)

theorem proved : Rows.PlaceTellsSaid :=
  over
#print axioms proved

end Go.Proofs.Ytfigohlgckandaa.PlaceTells
