/- For any bytes b and any int cut, CrcTells returns true: the sum of the bytes, wherever they are parted, is the document's, and what is sealed is what the document says; bytes longer than 1000 ask the document's example alone. Conditions: none. -/
import Derived.Test.YtilgkhenjhpcaaaRows
import Derived.Test.YtilgkhenjhpcaaaLaw
import Derived.Test.YtilgkhenjhpcaaaCrcF
namespace Go.Proofs.Ytilgkhenjhpcaaa.crcTells
open Go.ChangeShapes Go.WideShapes Go.ChangeAt Go.RowKit
set_option linter.unusedVariables false

theorem seen_drop {w : World} {A : Option Addr} {bs : List UInt8} {K c : Nat} (h : Seen w A (bytesV bs)) (hc : bs.length ≤ c) : Seen w (if c = K then A else A.map (·.add K)) (bytesV (bs.drop K)) := by
  have := h.drop (k := K) (cap := c) (by rw [bytes_length]; exact hc)
  rwa [bytesV, ← List.map_drop] at this
theorem seen_drop_n {w : World} {A : Option Addr} {bs : List UInt8} {K c : Nat} (hk : ¬ c = K) (h : Seen w A (bytesV bs)) (hc : bs.length ≤ c) : Seen w (A.map (·.add K)) (bytesV (bs.drop K)) := by
  have := seen_drop (K := K) h hc
  rwa [if_neg hk] at this
theorem seen_drop_c {w : World} {A : Option Addr} {bs : List UInt8} {c : Nat} (h : Seen w A (bytesV bs)) (hc : bs.length ≤ c) : Seen w A (bytesV (bs.drop c)) := by
  have := seen_drop (K := c) h hc
  rwa [if_pos rfl] at this
theorem two_cells (w : World) (u v : Value) (t : TypeId) : (w.alloc (.cells #[u, v] t)).drew.cell? ⟨w.heap.size, 0, none⟩ = some u ∧ (w.alloc (.cells #[u, v] t)).drew.cell? ⟨w.heap.size, 1, none⟩ = some v :=
  ⟨cell_of_row _ _ 0 _ _ (0, 0) (heap_alloc_new w _), cell_of_row _ _ 1 _ _ (0, 0) (heap_alloc_new w _)⟩
theorem walk_awake (A : Option Addr) (n c : Nat) (a : Int) (w : World) (h : 1000 < n) (hm : n ≤ maxLen) :
    Calls Try.prog 3 #[.slice A n c, .int .i64 a] w fun e w' => e = .returned (.bool true) ∧ Below w.heap.size w w' := by
  go_enter Try.func3, Try.ntmps3
  go_wp2_with (go_at_call 7; refine (awake_any _).mono ?_; rintro e w' ⟨rfl, hb⟩)
  go_ret
  exact ⟨rfl, hb⟩

theorem walk_main (A : Option Addr) (n c : Nat) (a : Int) (bs : List UInt8) (w : World) (hn : bs.length = n) (hnc : n ≤ c) (hcm : c ≤ maxLen) (h : Seen w A (bytesV bs)) (h1 : n ≤ 1000) (ha1 : -9223372036854775808 ≤ a) (ha2 : a ≤ 9223372036854775807) :
    Calls Try.prog 3 #[.slice A n c, .int .i64 a] w fun e w' => e = .returned (.bool true) ∧ Below w.heap.size w w' := by
  have Hh := Lib.hid h; clear h
  have e1 := Int.emod_nonneg a (show (n : Int) + 1 ≠ 0 by omega)
  have e2 := Int.emod_lt_of_pos a (show 0 < (n : Int) + 1 by omega)
  obtain ⟨K, hK⟩ : ∃ K : Nat, a % ((n : Int) + 1) = K := ⟨(a % ((n : Int) + 1)).toNat, by omega⟩
  have hKl : K ≤ n := by omega
  have HK := Lib.hid hK
  clear hK e1 e2
  have el : (bytesV (sealOf bs)).length = n + 4 := by rw [bytes_length, sealOf_length, hn]
  have El := Lib.hid el
  clear el
  subst hn
  unfold maxLen at hcm
  have b0 : (0 : Int) ≤ (K : Int) := by omega
  have b1 : (K : Int) ≤ (bs.length : Int) := by omega
  have b2 : (K : Int) ≤ (c : Int) := by omega
  have b3 : (bs.length : Int) ≤ (c : Int) := by omega
  by_cases hcK : c = K
  · subst hcK
    go_enter Try.func3, Try.ntmps3
    go_wp2_with (go_at_call 8; refine (Pick_any a _ _ ha1 ha2 (by omega) (by omega)).mono ?_; rintro e w' ⟨rfl, rfl⟩; rw [HK.out])
    go_region_held3 (fun w' => Below w.heap.size w w')
      (first | exact (Below.refl _ _).drew | exact ((Below.refl _ _).alloc (Nat.le_refl _) _).drew | exact HA.out | exact HB.out | exact HC.out | exact HD.out | exact HE.out)
      (first
        | (go_at_call 9; refine (Sum_two A A c c 0 0 2 (bs.take c) (bs.drop c) _ _ (crcOf bs) (congrArg crcOf (List.take_append_drop c bs)) (by rw [List.length_take]; omega) (by rw [List.length_drop]; omega) (two_cells w _ _ _).1 (two_cells w _ _ _).2 (seen_take c (Hh.out.below ((Below.refl _ _).alloc (Nat.le_refl _) _).drew)) (seen_drop_c (Hh.out.below ((Below.refl _ _).alloc (Nat.le_refl _) _).drew) hnc) (by omega) (by omega)).mono ?_; rintro e w3 ⟨rfl, hbx⟩; have HA := Lib.hid (((Below.refl _ _).alloc (Nat.le_refl _) _).drew.trans (hbx.mono (by simp)) : Below w.heap.size w w3); clear hbx)
        | (go_at_call 10; refine (RSum_any A bs.length c bs _ rfl (Hh.out.below HA.out) (by omega)).mono ?_; rintro e w' ⟨rfl, rfl⟩)
        | (go_at_call 12; refine (Seal_any A c bs _ (Hh.out.below HA.out) (by omega)).mono ?_; rintro e w4 ⟨A4, c4, rfl, hown4, hbx⟩; rw [El.out] at hown4 ⊢; have Hown4 := Lib.hid hown4; have HX := Lib.hid hbx; have HB := Lib.hid (HA.out.trans (hbx.mono HA.out.size)); clear hbx hown4)
        | (go_at_call 13; refine (RSeal_any A bs.length c bs _ rfl (Hh.out.below HB.out) (by omega)).mono ?_; rintro e w5 ⟨A5, c5, rfl, hown5, hbx⟩; rw [El.out] at hown5 ⊢; have Hown5 := Lib.hid hown5; have HY := Lib.hid hbx; have HC := Lib.hid (HB.out.trans (hbx.mono HB.out.size)); clear hbx hown5)
        | (go_at_call 11; refine (Same_any A4 A5 _ _ c4 c5 (sealOf bs) (sealOf bs) _ (sealOf_length bs) (sealOf_length bs) (Seen.of_own (own_below Hown4.out HY.out)) (Seen.of_own Hown5.out) (by omega)).mono ?_; rintro e w6 ⟨rfl, hbx⟩; rw [decide_eq_true rfl]; have HD := Lib.hid (HC.out.trans (hbx.mono HC.out.size)); clear hbx)
        | (go_at_call 7; refine (awake_any _).mono ?_; rintro e w7 ⟨rfl, hbx⟩; have HE := Lib.hid (HD.out.trans (hbx.mono HD.out.size)); clear hbx))
    all_goals
      go_wp2
      go_ret
      exact ⟨rfl, HE.out⟩
  · go_enter Try.func3, Try.ntmps3
    go_wp2_with (go_at_call 8; refine (Pick_any a _ _ ha1 ha2 (by omega) (by omega)).mono ?_; rintro e w' ⟨rfl, rfl⟩; rw [HK.out])
    go_region_held3 (fun w' => Below w.heap.size w w')
      (first | exact (Below.refl _ _).drew | exact ((Below.refl _ _).alloc (Nat.le_refl _) _).drew | exact HA.out | exact HB.out | exact HC.out | exact HD.out | exact HE.out)
      (first
        | (go_at_call 9; refine (Sum_two A (A.map (·.add K)) K c (bs.length - K) (c - K) 2 (bs.take K) (bs.drop K) _ _ (crcOf bs) (congrArg crcOf (List.take_append_drop K bs)) (by rw [List.length_take]; omega) (by rw [List.length_drop]) (two_cells w _ _ _).1 (two_cells w _ _ _).2 (seen_take K (Hh.out.below ((Below.refl _ _).alloc (Nat.le_refl _) _).drew)) (seen_drop_n hcK (Hh.out.below ((Below.refl _ _).alloc (Nat.le_refl _) _).drew) hnc) (by omega) (by omega)).mono ?_; rintro e w3 ⟨rfl, hbx⟩; have HA := Lib.hid (((Below.refl _ _).alloc (Nat.le_refl _) _).drew.trans (hbx.mono (by simp)) : Below w.heap.size w w3); clear hbx)
        | (go_at_call 10; refine (RSum_any A bs.length c bs _ rfl (Hh.out.below HA.out) (by omega)).mono ?_; rintro e w' ⟨rfl, rfl⟩)
        | (go_at_call 12; refine (Seal_any A c bs _ (Hh.out.below HA.out) (by omega)).mono ?_; rintro e w4 ⟨A4, c4, rfl, hown4, hbx⟩; rw [El.out] at hown4 ⊢; have Hown4 := Lib.hid hown4; have HX := Lib.hid hbx; have HB := Lib.hid (HA.out.trans (hbx.mono HA.out.size)); clear hbx hown4)
        | (go_at_call 13; refine (RSeal_any A bs.length c bs _ rfl (Hh.out.below HB.out) (by omega)).mono ?_; rintro e w5 ⟨A5, c5, rfl, hown5, hbx⟩; rw [El.out] at hown5 ⊢; have Hown5 := Lib.hid hown5; have HY := Lib.hid hbx; have HC := Lib.hid (HB.out.trans (hbx.mono HB.out.size)); clear hbx hown5)
        | (go_at_call 11; refine (Same_any A4 A5 _ _ c4 c5 (sealOf bs) (sealOf bs) _ (sealOf_length bs) (sealOf_length bs) (Seen.of_own (own_below Hown4.out HY.out)) (Seen.of_own Hown5.out) (by omega)).mono ?_; rintro e w6 ⟨rfl, hbx⟩; rw [decide_eq_true rfl]; have HD := Lib.hid (HC.out.trans (hbx.mono HC.out.size)); clear hbx)
        | (go_at_call 7; refine (awake_any _).mono ?_; rintro e w7 ⟨rfl, hbx⟩; have HE := Lib.hid (HD.out.trans (hbx.mono HD.out.size)); clear hbx))
    all_goals
      go_wp2
      go_ret
      exact ⟨rfl, HE.out⟩

theorem walk (A : Option Addr) (n c : Nat) (bs : List UInt8) (a : Int) (w : World) (hn : bs.length = n) (hnc : n ≤ c) (hcm : c ≤ maxLen) (h : Seen w A (bytesV bs)) (ha : (Lit.int .i64 a).wf = true) :
    Calls Try.prog 3 #[.slice A n c, .int .i64 a] w fun e w' => e = .returned (.bool true) ∧ Below w.heap.size w w' := by
  have hb := bounds_i64 ha
  by_cases h1 : 1000 < n
  · exact walk_awake A n c a w h1 (by omega)
  · exact walk_main A n c a bs w hn hnc hcm h (by omega) hb.1 hb.2

/-! ### THE ROW -/
theorem own : ownKnob Try.prog.godebug = none := by kernel_rfl

set_option maxRecDepth 100000 in
theorem lifted (os : Os) (started : os.Started) (H : Type) (enc : TypeId × Value → H) :
    ReturnsInHanded {} Try.checked os 3 .any (Rows.crcTellsSpec.pre6 enc Try.prog Try.f3 Rows.crcTellsRow.domain false) (Rows.crcTellsSpec.post enc Try.prog Try.f3 false true false false) := by
  refine returnsInHanded_of_change (C := Try.checked) own started (by kernel_rfl) Try.func3
    (ChangeSpec.witness6 (enc := enc) (C := Try.checked) false ⟨#[], #[.slice none 0 0, .int .i64 0], []⟩ 8 (by kernel_rfl) (by kernel_rfl) (by kernel_rfl) (by kernel_rfl)) ?_
  intro W base args ds gs before hval0 hW hcnd _
  have hval : ∀ (j : Nat) t v, Try.f3.params[j]? = some t → args[j]? = some v → Value.okWide Try.prog W .any base t v := hval0
  have hW' := hW
  obtain ⟨p, q, hA0, hV, rfl, hfz, hnd⟩ := hW
  have hA : DataW.TrodAll enc Try.prog W 0 (fun _ => true) true Try.f3.params.toList args.toList ds p := hA0
  rw [Try.params3] at hA hval
  obtain ⟨v0, vs0, d0, ds0, p0, q0, hargs, rfl, rfl, h0, r0⟩ := trodAll_cons hA
  obtain ⟨v1, vs1, d1, ds1, p1, q1, rfl, rfl, rfl, h1, r1⟩ := trodAll_cons r0
  obtain ⟨rfl, rfl, rfl⟩ := trodAll_nil r1
  obtain rfl : args = #[v0, v1] := by cases args; simp_all
  obtain ⟨rfl, rfl⟩ := trodVars_none hV
  obtain ⟨A0, n0, c0, bs0, rfl, hn0, hnc0, hcm0, hsee0⟩ := open_bytes Try.underlying22 Try.underlying5 (by kernel_rfl) (hval 0 22 v0 rfl rfl) h0
  obtain ⟨a1, rfl, rfl, rfl, w1⟩ := open_int Try.underlying3 (hval 1 3 v1 rfl rfl) h1
  refine (walk A0 n0 c0 bs0 a1 W hn0 hnc0 hcm0 hsee0 w1).mono fun e W' ⟨he, hg⟩ => ?_
  subst he
  exact ⟨_, rfl, law_post hW' rfl (by kernel_rfl) (by kernel_rfl) (by kernel_rfl) Try.underlying4 rfl rfl rfl hg⟩

theorem over : Rows.crcTellsRow.holds Try.pinned (OpenSpec.ofChange Rows.crcTellsSpec) :=
  OpenClaim.holds_of_wide 3 Try.f3 rfl rfl rfl rfl rfl rfl rfl ⟨rfl, rfl, rfl, rfl, rfl⟩ rfl rfl rfl rfl rfl (by kernel_rfl) Try.func3 (by kernel_rfl)
    (of_decide_eq_true (by kernel_rfl)) (by unfold Func.isWrapper; first | (rw [if_pos (by decide +kernel)]; kernel_rfl) | (rw [if_neg (by decide +kernel)]; exact ⟨rfl, rfl⟩))
    (fun os started H enc _ => lifted os started H enc)

theorem proved : Rows.CrcTellsSaid :=
  over
#print axioms proved

end Go.Proofs.Ytilgkhenjhpcaaa.crcTells
