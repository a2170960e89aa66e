/-
  Contracts of dotterelref22's Put and Bytes. Conditions: what each names.
-/
import Derived.Test.YtkjfaijdmpnjkaaDupRef
namespace Go.Proofs.Ytkjfaijdmpnjkaa
open Go.ChangeShapes Go.WideShapes Go.ChangeAt Go.RowKit
set_option linter.unusedVariables false

set_option maxRecDepth 100000 in
set_option maxHeartbeats 4000000 in
theorem RPut_arg (A : Option Addr) (m cp : Nat) (c n e : Int) (w : World) (hr : ¬ ((0 ≤ c ∧ c ≤ 255) ∧ (1 ≤ n ∧ n ≤ 1099511627776) ∧ (0 ≤ e ∧ e ≤ 63))) :
    Calls Try.prog 7 #[.slice A m cp, .int .i64 c, .int .i64 n, .int .i64 e] w fun en w' => en = .returned (.tuple #[.slice A m cp, .int .i64 1]) ∧ w = w' := by
  by_cases h0 : c < 0
  · clear hr
    go_enter Try.func7, Try.ntmps7
    go_wp2
    go_ret2
    exact ⟨rfl, rfl⟩
  by_cases h1 : c > 255
  · clear hr
    go_enter Try.func7, Try.ntmps7
    go_wp2
    go_ret2
    exact ⟨rfl, rfl⟩
  by_cases h2 : n < 1
  · clear hr
    go_enter Try.func7, Try.ntmps7
    go_wp2
    go_ret2
    exact ⟨rfl, rfl⟩
  by_cases h3 : n > 1099511627776
  · clear hr
    go_enter Try.func7, Try.ntmps7
    go_wp2
    go_ret2
    exact ⟨rfl, rfl⟩
  by_cases h4 : e < 0
  · clear hr
    go_enter Try.func7, Try.ntmps7
    go_wp2
    go_ret2
    exact ⟨rfl, rfl⟩
  have h5 : e > 63 := by omega
  clear hr
  go_enter Try.func7, Try.ntmps7
  go_wp2
  go_ret2
  exact ⟨rfl, rfl⟩

theorem last_info : (Try.prog.info? 47).map (fun i => (i.zero, i.size, i.bytes)) = some (some (.agg #[.int .i64 0, .int .i64 0, .int .i64 0]), 3, 24) := by kernel_rfl
theorem new_last (w : World) (l : Lst) : ∃ W, w.alloc (.cells #[.int .i64 l.1, .int .i64 l.2.1, .int .i64 l.2.2] 47) = W ∧ Below w.heap.size w W ∧ Seen W (some ⟨w.heap.size, 0, none⟩) (lstsV [l]) :=
  ⟨_, rfl, (Below.refl _ _).alloc (Nat.le_refl _) _, Seen.of_cells (heap_alloc_new w _)⟩
theorem filt_snoc {x : List Lst} {i : Nat} {r : Lst} (q : Lst → Bool) (h : x[i]? = some r) : (x.take (i + 1)).filter q = (x.take i).filter q ++ (if q r = true then [r] else []) := by
  rw [take_snocL h, List.filter_append]
  congr 1
  by_cases e : q r = true
  · rw [if_pos e, List.filter_cons_of_pos e]; rfl
  · rw [if_neg e, List.filter_cons_of_neg e]; rfl
/-- what Put hands back -/
def RPutRet (x : List Lst) (c n e : Int) (w : World) (en : Ending) (w' : World) : Prop :=
  ∃ A' k c', en = .returned (.tuple #[.slice A' k c', .int .i64 (putA x c n e)]) ∧ (putX x c n e).length = k ∧ k ≤ c' ∧ c' ≤ maxLen ∧ ListAt w' A' (putX x c n e) ∧ Below w.heap.size w w'
theorem RPutRet.same {A : Option Addr} {m cp : Nat} {x : List Lst} {c n e a : Int} {w w' : World} {en : Ending} (he : en = .returned (.tuple #[.slice A m cp, .int .i64 a])) (ha : putA x c n e = a) (h0 : a ≠ 0) (hl : x.length = m) (hm : m ≤ cp) (hc : cp ≤ maxLen) (hs : ListAt w A x) (hb : Below w.heap.size w w') : RPutRet x c n e w en w' := by
  have hx : putX x c n e = x := by unfold putX; rw [ha, if_neg h0]
  unfold RPutRet
  rw [hx, ha]
  exact ⟨A, m, cp, he, hl, hm, hc, hs.below hb, hb⟩

set_option maxRecDepth 100000 in
set_option maxHeartbeats 8000000 in
theorem RPut_store (A : Option Addr) (m cp : Nat) (x : List Lst) (c n e : Int) (w : World) (hl : x.length = m) (hm : m ≤ 1000) (hs : ListAt w A x) (hr : (0 ≤ c ∧ c ≤ 255) ∧ (1 ≤ n ∧ n ≤ 1099511627776) ∧ (0 ≤ e ∧ e ≤ 63)) (h0 : putA x c n e = 0) :
    Calls Try.prog 7 #[.slice A m cp, .int .i64 c, .int .i64 n, .int .i64 e] w (RPutRet x c n e w) := by
  have KA := Lib.hid (At_any A m cp x c w hl (by omega) hs)
  have g1 : ¬ c < 0 := by omega
  have g2 : ¬ c > 255 := by omega
  have g3 : ¬ n < 1 := by omega
  have g4 : ¬ n > 1099511627776 := by omega
  have g5 : ¬ e < 0 := by omega
  have g6 : ¬ e > 63 := by omega
  have hR : rightL c n e = true := rightL_iff.2 hr
  have Hl := Lib.hid hl; have Hs := Lib.hid hs; have Hp := Lib.hid h0; have HR := Lib.hid hR
  clear hl hs h0 hR hr
  go_enter Try.func7, Try.ntmps7
  go_upto_region 4 with (go_at_call 16; refine KA.out.mono ?_; rintro e w1 ⟨v, rfl, hv, rfl⟩)
  rcases hv with ⟨rfl, hat⟩ | ⟨i, l, rfl, hi, hat⟩
  case' inl =>
    have q1 : ¬ (m : Int) ≥ 32 := by
      have h0 := Hp.out
      unfold putA at h0
      rw [hat, if_neg (by rw [HR.out]; decide)] at h0
      simp only at h0
      have := Hl.out
      split at h0
      · cases h0
      · omega
    clear hat
    go_upto_region 8 with fail
    clear q1
  case' inr =>
    obtain ⟨g, o, rfl, d0, d1, d2⟩ := Hs.out.get hi
    have hin : i < m := by have := (List.getElem?_eq_some_iff.1 hi).1; have := Hl.out; omega
    have q1 : ¬ n ≤ l.2.1 := by
      have h0 := Hp.out
      unfold putA at h0
      rw [hat, if_neg (by rw [HR.out]; decide)] at h0
      simp only at h0
      split at h0
      · cases h0
      · assumption
    have i0 : (0 : Int) ≤ (i : Int) := by omega
    have i1 : (i : Int) < (m : Int) := by omega
    have i2 : ¬ (i : Int) < 0 := by omega
    clear hat hi
    go_upto_region 8 with fail
    clear q1 i0 i1 i2 d0 d1 d2 hin
  all_goals
    clear g1 g2 g3 g4 g5 g6 KA
    go_wp2
    go_loopw [11, 12] (fun sv iv wr => ∃ (i k : Nat) (A' : Option Addr) (c' : Nat), i ≤ m ∧ k ≤ i ∧ iv = .int .i64 (i : Int) ∧ sv = .slice A' k c' ∧ ((x.take i).filter (fun l => decide (l.1 < c))).length = k ∧ wr.ownsRow w.heap.size 47 3 (.slice A' k c') k (lstsV ((x.take i).filter (fun l => decide (l.1 < c)))) ∧ Below w.heap.size w wr) (fun _ iv _ => m - (intOf iv).toNat)
    case atStart => exact ⟨0, 0, none, 0, by omega, by omega, rfl, rfl, rfl, World.ownsRow_nil _ _ _ _, Below.refl _ _⟩
    case round =>
      obtain ⟨i, k, A', c', hin, hki, rfl, rfl, hk, ho, hb⟩ := hrel
      have Hk := Lib.hid hk
      by_cases hi : i < m
      · obtain ⟨r, hr⟩ : ∃ r, x[i]? = some r := ⟨_, List.getElem?_eq_getElem (by have := Hl.out; omega)⟩
        obtain ⟨g, o, hAg, d0, d1, d2⟩ := (Hs.out.below hb).get hr
        cases hAg
        have hsn := filt_snoc (fun l => decide (l.1 < c)) hr
        have i0 : (0 : Int) ≤ (i : Int) := by omega
        have i1 : (i : Int) < (m : Int) := by omega
        by_cases he : r.1 < c
        · rw [if_pos (by simpa using he)] at hsn
          obtain ⟨Wa, hWa, hba, hsa⟩ := new_last wr r
          have Ho := Lib.hid (own_belowM ho hba); have Hb := Lib.hid (hb.trans (hba.mono hb.size)); have Hsa := Lib.hid hsa; have Hsn := Lib.hid hsn
          clear ho hb hba hsa hr hk hsn
          go_wp2_with (at_builtin; refine wpList_app3 rfl (.tmp 73) (.tmp 78) _ rfl 47 _ 3 24 Try.underlying27 last_info rfl (by omega) w.heap.size A' k c' (lstsV ((x.take i).filter (fun l => decide (l.1 < c)))) rfl Ho.out wr.heap.size 0 1 1 (lstsV [r]) rfl rfl Hsa.out (lstsV_one _) (by unfold maxLen; omega) (by omega) Hb.out.size ?_; intro A4 c4 w4 hown4 hg4 hbk4; have Hown4 := Lib.hid hown4; have Hg4 := Lib.hid hg4; clear hown4 hg4 hbk4)
          go_roundw
          case rel =>
            have tg : Turned (fun k0 => (Value.slice A' k c').ownBlock = some k0) Wa w4 := Turned.of_grown Hg4.out fun k e => e
            exact ⟨i + 1, k + 1, A4, c4, by omega, by omega, by go_num, rfl, by rw [Hsn.out, List.length_append, Hk.out]; rfl, by rw [Hsn.out, lstsV_append]; exact Hown4.out, Hb.out.trans (tg.below (fun k e => (Ho.out.lt k e).1) Hb.out.size)⟩
          case measure => simp [intOf]; omega
        · rw [if_neg (by simpa using he)] at hsn
          rw [List.append_nil] at hsn
          have Ho := Lib.hid ho; have Hb := Lib.hid hb; have Hsn := Lib.hid hsn
          clear ho hb hr hk hsn
          go_wp2
          go_roundw
          case rel => exact ⟨i + 1, k, A', c', by omega, by omega, by go_num, rfl, by rw [Hsn.out]; exact Hk.out, by rw [Hsn.out]; exact Ho.out, Hb.out⟩
          case measure => simp [intOf]; omega
      · obtain rfl : i = m := by omega
        have i1 : ¬ (i : Int) < (i : Int) := by omega
        rw [List.take_of_length_le (by rw [Hl.out]; exact Nat.le_refl _)] at ho hk
        obtain ⟨Wa, hWa, hba, hsa⟩ := new_last wr (c, n, e)
        simp only at hWa
        have Ho := Lib.hid (own_belowM ho hba); have Hb := Lib.hid (hb.trans (hba.mono hb.size)); have Hsa := Lib.hid hsa; have Hk2 := Lib.hid hk
        clear ho hb hba hsa hk Hk
        go_wp2_with (at_builtin; refine wpList_app3 rfl (.tmp 80) (.tmp 85) _ rfl 47 _ 3 24 Try.underlying27 last_info rfl (by omega) w.heap.size A' k c' (lstsV (x.filter (fun l => decide (l.1 < c)))) rfl Ho.out wr.heap.size 0 1 1 (lstsV [(c, n, e)]) rfl rfl Hsa.out (lstsV_one _) (by unfold maxLen; omega) (by omega) Hb.out.size ?_; intro A4 c4 w4 hown4 hg4 hbk4; have Hown4 := Lib.hid hown4; have Hg4 := Lib.hid hg4; clear hown4 hg4 hbk4)
        have tg : Turned (fun k0 => (Value.slice A' k c').ownBlock = some k0) Wa w4 := Turned.of_grown Hg4.out fun k e => e
        have Hb4 := Lib.hid (Hb.out.trans (tg.below (fun k e => (Ho.out.lt k e).1) Hb.out.size))
        clear tg hWa i1 hi hin
        have ho4 := Hown4.out
        rw [← lstsV_append] at ho4
        have Ho4 := Lib.hid ho4
        clear ho4
        obtain ⟨F, hF⟩ : ∃ F, x.filter (fun l => decide (l.1 < c)) ++ [(c, n, e)] = F := ⟨_, rfl⟩
        rw [hF] at Ho4
        have HF := Lib.hid hF
        have HFl := Lib.hid (show F.length = k + 1 by rw [← hF, List.length_append, Hk2.out]; rfl)
        clear hF Hown4 Hg4
        clear Hb Ho Hsa Hk2
        go_wp2
        go_loopw [11, 13] (fun sv iv wr => ∃ (j k : Nat) (A' : Option Addr) (c' : Nat), j ≤ i ∧ k ≤ 2 * i + 1 ∧ iv = .int .i64 (j : Int) ∧ sv = .slice A' k c' ∧ (F ++ (x.take j).filter (fun l => decide (c < l.1))).length = k ∧ wr.ownsRow w.heap.size 47 3 (.slice A' k c') k (lstsV (F ++ (x.take j).filter (fun l => decide (c < l.1)))) ∧ Below w.heap.size w wr) (fun _ iv _ => i - (intOf iv).toNat)
        case atStart => exact ⟨0, k + 1, A4, c4, by omega, by omega, rfl, rfl, by simpa using HFl.out, by simpa using Ho4.out, Hb4.out⟩
        case round =>
          obtain ⟨j, k2, A', c', hin, hki2, rfl, rfl, hk, ho, hb⟩ := hrel
          have Hk := Lib.hid hk
          by_cases hi : j < i
          · obtain ⟨r, hr⟩ : ∃ r, x[j]? = some r := ⟨_, List.getElem?_eq_getElem (by have := Hl.out; omega)⟩
            obtain ⟨g, o, hAg, d0, d1, d2⟩ := (Hs.out.below hb).get hr
            cases hAg
            have hsn := filt_snoc (fun l => decide (c < l.1)) hr
            have i0 : (0 : Int) ≤ (j : Int) := by omega
            have i1 : (j : Int) < (i : Int) := by omega
            have hkb : (F ++ (x.take (j + 1)).filter (fun l => decide (c < l.1))).length ≤ 2 * i + 1 := by
              rw [List.length_append, HFl.out]
              have := List.length_filter_le (fun l => decide (c < l.1)) (x.take (j + 1))
              have := List.length_take_le (j + 1) x
              omega
            by_cases he : c < r.1
            · have he2 : r.1 > c := he
              rw [if_pos (by simpa using he)] at hsn
              obtain ⟨Wa, hWa, hba, hsa⟩ := new_last wr r
              have Ho := Lib.hid (own_belowM ho hba); have Hb := Lib.hid (hb.trans (hba.mono hb.size)); have Hsa := Lib.hid hsa; have Hsn := Lib.hid hsn; have Hkb := Lib.hid hkb
              clear ho hb hba hsa hr hk hsn he hkb
              go_wp2_with (at_builtin; refine wpList_app3 rfl (.tmp 100) (.tmp 105) _ rfl 47 _ 3 24 Try.underlying27 last_info rfl (by omega) w.heap.size A' k2 c' (lstsV (F ++ (x.take j).filter (fun l => decide (c < l.1)))) rfl Ho.out wr.heap.size 0 1 1 (lstsV [r]) rfl rfl Hsa.out (lstsV_one _) (by unfold maxLen; omega) (by omega) Hb.out.size ?_; intro A4 c4 w4 hown4 hg4 hbk4; have Hown4 := Lib.hid hown4; have Hg4 := Lib.hid hg4; clear hown4 hg4 hbk4)
              go_roundw
              case rel =>
                have tg : Turned (fun k0 => (Value.slice A' k2 c').ownBlock = some k0) Wa w4 := Turned.of_grown Hg4.out fun k e => e
                have hle : (F ++ (x.take (j + 1)).filter (fun l => decide (c < l.1))).length = k2 + 1 := by rw [Hsn.out, ← List.append_assoc, List.length_append, Hk.out]; rfl
                exact ⟨j + 1, k2 + 1, A4, c4, by omega, by rw [← hle]; exact Hkb.out, by go_num, rfl, hle, by rw [Hsn.out, ← List.append_assoc, lstsV_append]; exact Hown4.out, Hb.out.trans (tg.below (fun k e => (Ho.out.lt k e).1) Hb.out.size)⟩
              case measure => simp [intOf]; omega
            · have he2 : ¬ r.1 > c := he
              rw [if_neg (by simpa using he)] at hsn
              rw [List.append_nil] at hsn
              have Ho := Lib.hid ho; have Hb := Lib.hid hb; have Hsn := Lib.hid hsn
              clear ho hb hr hk hsn he hkb
              go_wp2
              go_roundw
              case rel => exact ⟨j + 1, k2, A', c', by omega, by omega, by go_num, rfl, by rw [Hsn.out]; exact Hk.out, by rw [Hsn.out]; exact Ho.out, Hb.out⟩
              case measure => simp [intOf]; omega
          · obtain rfl : j = i := by omega
            have i1 : ¬ (j : Int) < (j : Int) := by omega
            rw [List.take_of_length_le (by rw [Hl.out]; exact Nat.le_refl _)] at ho hk
            have hX : putX x c n e = F ++ x.filter (fun l => decide (c < l.1)) := by
              unfold putX putL
              rw [if_pos Hp.out, ← HF.out, List.append_assoc]
              rfl
            rw [← hX] at ho hk
            have Ho := Lib.hid ho; have Hb := Lib.hid hb; have Hk2 := Lib.hid hk
            clear ho hb hk Hk
            go_wp2
            go_ret2
            have hcap := own_capL Ho.out
            exact ⟨A', k2, c', by rw [Hp.out]; rfl, Hk2.out, hcap.1, hcap.2, ListAt.own Ho.out, Hb.out⟩
end Go.Proofs.Ytkjfaijdmpnjkaa
