/-
  Contract of slices.BinarySearchFunc at chunks, with find's comparison; of find. Conditions: how the chunks lie; that their numbers rise.
-/
import Derived.Test.YtmdmpliiiecmlaaGreatJB
namespace Go.Proofs.YtmdmpliiiecmlaaGreat
open Go.ChangeShapes Go.WideShapes Go.ChangeAt Go.RowKit
set_option linter.unusedVariables false

set_option maxRecDepth 100000 in
theorem VfindCmp (k : Ck) (x : Int) (w : World) : Calls Tryz.prog 68 #[ckA k, .int .i64 x] w fun e w' => e = .returned (.int .i64 (Lib.compareInt k.id x)) ∧ Below w.heap.size w w' := by
  unfold ckA
  have Hb := Lib.hid (below_box w (.cells #[.int .i64 k.id, .int .i64 k.vo, .int .i64 k.ep, .slice k.m.A k.m.n k.m.c, .slice k.j.A k.j.n k.j.c] 47))
  go_enter Tryz.func68, Tryz.ntmps68
  go_wp2_with (go_at_call 69; refine (Compare_any _ _ _).mono ?_; rintro e w' ⟨rfl, rfl⟩)
  go_ret
  exact ⟨rfl, Hb.out⟩
def RiseK (X : List Chk) : Prop := X.Pairwise fun a b => a.id < b.id
/-- what the search tells: the place of the chunk x, if it is there -/
def BsRet (X : List Chk) (x : Int) (w : World) (e : Ending) (w' : World) : Prop :=
  ∃ (i : Nat) (b : Bool), e = .returned (.tuple #[.int .i64 (i : Int), .bool b]) ∧ i ≤ X.length ∧ (b = true → ∃ k, X[i]? = some k ∧ k.id = x) ∧ (b = false → ∀ k ∈ X, k.id ≠ x) ∧ Below w.heap.size w w'
attribute [local go_sem ↓] ldCk_eq
set_option maxRecDepth 100000 in
set_option maxHeartbeats 2000000 in
theorem VBs (S : Sl) (X : List Ck) (x : Int) (w : World) (h : KsT w S X) (hl : X.length ≤ 64) (hr : RiseK (X.map Ck.dat)) :
    Calls Tryz.prog 67 #[.slice S.A S.n S.c, .int .i64 x, .func (.func 68) #[] #[]] w (BsRet (X.map Ck.dat) x w) := by
  obtain ⟨A0, n, c0⟩ := S
  have hlen := h.len
  simp only at hlen ⊢
  have Hk := Lib.hid h; have Hn := Lib.hid hlen; have Hr := Lib.hid hr
  have hn6 : n ≤ 64 := by omega
  clear h hlen hl hr
  go_enter Tryz.func67, Tryz.ntmps67
  go_wp2
  go_loopw [9, 10] (fun iv jv wr => ∃ i j : Nat, i ≤ j ∧ j ≤ n ∧ iv = .int .i64 (i : Int) ∧ jv = .int .i64 (j : Int) ∧ (∀ (q : Nat) (k : Ck), X[q]? = some k → q < i → k.id < x) ∧ (∀ (q : Nat) (k : Ck), X[q]? = some k → j ≤ q → x ≤ k.id) ∧ Below w.heap.size w wr) (fun iv jv _ => (intOf jv).toNat - (intOf iv).toNat)
  case atStart => exact ⟨0, n, by omega, by omega, rfl, rfl, fun q k hq h => by omega, fun q k hq h => by have := (List.getElem?_eq_some_iff.1 hq).1; have := Hn.out; omega, Below.refl _ _⟩
  case round =>
    obtain ⟨i, j, hij, hjn, rfl, rfl, hlo, hhi, hb⟩ := hrel
    by_cases hi : i < j
    · obtain ⟨h, hh⟩ : ∃ h : Nat, ((i : Int) + (j : Int)) / 2 = (h : Int) := ⟨(i + j) / 2, by omega⟩
      have hh1 : i ≤ h := by omega
      have hh2 : h < j := by omega
      obtain ⟨k, hx⟩ : ∃ r, X[h]? = some r := ⟨_, List.getElem?_eq_getElem (by have := Hn.out; omega)⟩
      obtain ⟨g1, o1, hA, hat⟩ := (Hk.out.below hb).get hx
      simp only at hA
      subst hA
      have hld := ldCk_run hat
      have i0 : (0 : Int) ≤ (h : Int) := by omega
      have i1 : (h : Int) < (n : Int) := by omega
      have C := Lib.hid (fun W => VfindCmp k x W)
      have Hb := Lib.hid hb; have Hlo := Lib.hid hlo; have Hhi := Lib.hid hhi; have Hx := Lib.hid hx
      have key : ∀ (q : Nat) (k' : Ck), X[q]? = some k' → (q < h → k'.id < k.id) ∧ (h < q → k.id < k'.id) := fun q k' hq => by
        have hp := List.pairwise_iff_getElem.1 (show (X.map Ck.dat).Pairwise fun a b => a.id < b.id from Hr.out)
        obtain ⟨q1, rfl⟩ := List.getElem?_eq_some_iff.1 hq
        obtain ⟨h1, rfl⟩ := List.getElem?_eq_some_iff.1 Hx.out
        refine ⟨fun hlt => ?_, fun hlt => ?_⟩
        · have := hp q h (by simpa using q1) (by simpa using h1) hlt
          simpa [Ck.dat] using this
        · have := hp h q (by simpa using h1) (by simpa using q1) hlt
          simpa [Ck.dat] using this
      have Key := Lib.hid key
      clear hb hlo hhi hx hat key
      by_cases hc : k.id < x
      · have hcmp : Lib.compareInt k.id x = -1 := by unfold Lib.compareInt; rw [if_pos hc]
        rw [hcmp] at C
        clear hcmp
        unfold ckA at C
        have Hc := Lib.hid hc
        clear hc
        go_wp2_with (go_at_call 68; refine (C.out _).mono ?_; rintro e w' ⟨rfl, hb3⟩; have Hb3 := Lib.hid (Hb.out.trans (hb3.mono Hb.out.size)); clear hb3)
        go_roundw
        case rel =>
          refine ⟨h + 1, j, by omega, by omega, by go_num, rfl, fun q k' hq hlt => ?_, Hhi.out, Hb3.out⟩
          rcases (by omega : q < h ∨ q = h) with h3 | h3
          · have := (Key.out q k' hq).1 h3; have := Hc.out; omega
          · subst h3
            have := Hx.out
            rw [this] at hq
            injection hq with hq
            subst hq
            exact Hc.out
        case measure => simp [intOf]; omega
      · have hcmp : ∃ z : Int, 0 ≤ z ∧ Lib.compareInt k.id x = z := by
          unfold Lib.compareInt
          rw [if_neg hc]
          split
          · exact ⟨_, by omega, rfl⟩
          · exact ⟨_, by omega, rfl⟩
        obtain ⟨z, hz, hcmp⟩ := hcmp
        rw [hcmp] at C
        clear hcmp
        unfold ckA at C
        have Hc := Lib.hid hc
        clear hc
        have hz' : ¬ z < 0 := by omega
        go_wp2_with (go_at_call 68; refine (C.out _).mono ?_; rintro e w' ⟨rfl, hb3⟩; have Hb3 := Lib.hid (Hb.out.trans (hb3.mono Hb.out.size)); clear hb3)
        go_roundw
        case rel =>
          refine ⟨i, h, by omega, by omega, rfl, rfl, Hlo.out, fun q k' hq hle => ?_, Hb3.out⟩
          rcases (by omega : h < q ∨ q = h) with h3 | h3
          · have := (Key.out q k' hq).2 h3; have := Hc.out; omega
          · subst h3
            have := Hx.out
            rw [this] at hq
            injection hq with hq
            subst hq
            have := Hc.out
            omega
        case measure => simp [intOf]; omega
    · obtain rfl : i = j := by omega
      have i9 : ¬ (i : Int) < (i : Int) := by omega
      have hl : (X.map Ck.dat).length = n := by rw [List.length_map]; exact Hn.out
      have Hl := Lib.hid hl
      clear hl
      have Hb := Lib.hid hb; have Hlo := Lib.hid hlo; have Hhi := Lib.hid hhi
      by_cases hin : i < n
      · obtain ⟨k, hx⟩ : ∃ r, X[i]? = some r := ⟨_, List.getElem?_eq_getElem (by have := Hn.out; omega)⟩
        obtain ⟨g1, o1, hA, hat⟩ := (Hk.out.below hb).get hx
        simp only at hA
        subst hA
        have hld := ldCk_run hat
        have i0 : (0 : Int) ≤ (i : Int) := by omega
        have i1 : (i : Int) < (n : Int) := by omega
        have C := Lib.hid (fun W => VfindCmp k x W)
        have Hx := Lib.hid hx
        have hge := hhi i k hx (Nat.le_refl _)
        have hpw := List.pairwise_iff_getElem.1 (show (X.map Ck.dat).Pairwise fun a b => a.id < b.id from Hr.out)
        have Hp := Lib.hid hpw
        clear hb hlo hhi hx hat hpw
        by_cases hc : k.id = x
        · have hcmp : Lib.compareInt k.id x = 0 := by unfold Lib.compareInt; rw [hc]; simp
          rw [hcmp] at C
          clear hcmp
          unfold ckA at C
          have Hc := Lib.hid hc
          clear hc hge
          go_wp2_with (go_at_call 68; refine (C.out _).mono ?_; rintro e w' ⟨rfl, hb3⟩; have Hb3 := Lib.hid (Hb.out.trans (hb3.mono Hb.out.size)); clear hb3)
          go_ret2
          refine ⟨i, true, rfl, by rw [Hl.out]; omega, fun _ => ⟨k.dat, by rw [List.getElem?_map, Hx.out]; rfl, Hc.out⟩, (fun h => by cases h), Hb3.out⟩
        · have hcmp : Lib.compareInt k.id x = 1 := by unfold Lib.compareInt; rw [if_neg (by omega), if_pos (by omega)]
          rw [hcmp] at C
          clear hcmp
          unfold ckA at C
          have Hc := Lib.hid (show x < k.id by omega)
          clear hc hge
          go_wp2_with (go_at_call 68; refine (C.out _).mono ?_; rintro e w' ⟨rfl, hb3⟩; have Hb3 := Lib.hid (Hb.out.trans (hb3.mono Hb.out.size)); clear hb3)
          go_ret2
          refine ⟨i, false, rfl, by rw [Hl.out]; omega, (fun h => by cases h), fun _ d hd => ?_, Hb3.out⟩
          obtain ⟨k', hk', rfl⟩ := List.mem_map.1 hd
          obtain ⟨q, hq⟩ := List.getElem?_of_mem hk'
          show k'.id ≠ x
          rcases (by omega : q < i ∨ i ≤ q) with h3 | h3
          · have := Hlo.out q k' hq h3
            omega
          · rcases (by omega : i = q ∨ i < q) with rfl | h4
            · rw [Hx.out] at hq
              injection hq with hq
              subst hq
              have := Hc.out
              omega
            · obtain ⟨q1, rfl⟩ := List.getElem?_eq_some_iff.1 hq
              obtain ⟨h1, rfl⟩ := List.getElem?_eq_some_iff.1 Hx.out
              have h5 := Hp.out i q (by simpa using h1) (by simpa using q1) h4
              simp only [List.getElem_map, Ck.dat] at h5
              have := Hc.out
              omega
      · obtain rfl : i = n := by omega
        clear hb hlo hhi hin
        go_wp2
        go_ret2
        refine ⟨i, false, rfl, by rw [Hl.out]; omega, (fun h => by cases h), fun _ d hd => ?_, Hb.out⟩
        obtain ⟨k', hk', rfl⟩ := List.mem_map.1 hd
        obtain ⟨q, hq⟩ := List.getElem?_of_mem hk'
        show k'.id ≠ x
        have := Hlo.out q k' hq (by have := (List.getElem?_eq_some_iff.1 hq).1; have := Hn.out; omega)
        omega
end Go.Proofs.YtmdmpliiiecmlaaGreat
