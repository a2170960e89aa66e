/-
  SchedVersions' walk, of up to 60 versions and two policies that are right.
-/
import Derived.Test.YtbfjakchgmdldaaSchVer
import Derived.Test.YtbfjakchgmdldaaPolR
import Derived.Deep.DeepCutAuto
namespace Go.Proofs.Ytbfjakchgmdldaa.SchedVersions
open Go.ChangeShapes Go.WideShapes Go.ChangeAt Go.RowKit
set_option linter.unusedVariables false

attribute [local go_sem ↓] ldPol_eq stPol_eq stClk_eq
set_option maxRecDepth 100000 in
set_option maxHeartbeats 60000000 in
theorem walkIn (A : Option Addr) (n cap : Nat) (xs : List Int) (p q : Pol) (w : World) (hn : xs.length = n) (hs : Seen w A (numsV xs)) (hu : ∀ x ∈ xs, In64 x) (hle : n ≤ 60) (hp : InP p) (hq : InP q) (hrp : rightP p = true) (hrq : rightP q = true) :
    Calls Try.prog 5 #[.slice A n cap, .agg #[.int .i64 p.re, .int .i64 p.we, .int .i64 p.li, .int .i64 p.bu], .agg #[.int .i64 q.re, .int .i64 q.we, .int .i64 q.li, .int .i64 q.bu]] w fun e w' => e = .returned (.bool true) ∧ Below w.heap.size w w' := by
  have B1 := below_two w (.cells #[.int .i64 p.re, .int .i64 p.we, .int .i64 p.li, .int .i64 p.bu] 29) (.cells #[.int .i64 q.re, .int .i64 q.we, .int .i64 q.li, .int .i64 q.bu] 29)
  have X1 := heap_two0 w (.cells #[.int .i64 p.re, .int .i64 p.we, .int .i64 p.li, .int .i64 p.bu] 29) (.cells #[.int .i64 q.re, .int .i64 q.we, .int .i64 q.li, .int .i64 q.bu] 29)
  have Y1 := heap_two w (.cells #[.int .i64 p.re, .int .i64 p.we, .int .i64 p.li, .int .i64 p.bu] 29) (.cells #[.int .i64 q.re, .int .i64 q.we, .int .i64 q.li, .int .i64 q.bu] 29)
  have KP := Lib.hid (fun W => RRight_any p W)
  have KQ := Lib.hid (fun W => RRight_any q W)
  rw [hrp] at KP
  rw [hrq] at KQ
  have Hs := Lib.hid hs; have Hu := Lib.hid hu; have Hn := Lib.hid hn; have Hp := Lib.hid hp; have Hq := Lib.hid hq; have Hrp := Lib.hid hrp; have Hrq := Lib.hid hrq
  have hle' : ¬ (60 : Int) < (n : Int) := by omega
  clear hs hu hn hp hq hrp hrq
  go_enter Try.func5, Try.ntmps5
  go_upto_region 1 with fail
  change Code.wp _ _ _ _ ((w.alloc (.cells #[.int .i64 p.re, .int .i64 p.we, .int .i64 p.li, .int .i64 p.bu] 29)).alloc (.cells #[.int .i64 q.re, .int .i64 q.we, .int .i64 q.li, .int .i64 q.bu] 29))
  generalize (w.alloc (.cells #[.int .i64 p.re, .int .i64 p.we, .int .i64 p.li, .int .i64 p.bu] 29)).alloc (.cells #[.int .i64 q.re, .int .i64 q.we, .int .i64 q.li, .int .i64 q.bu] 29) = w1 at B1 X1 Y1 ⊢
  have hld := ldPol_run (pol_of_row X1 Hp.out)
  have HB1 := Lib.hid B1; have HX1 := Lib.hid X1; have HY1 := Lib.hid Y1
  clear B1 X1 Y1
  go_upto_region 4 with (first
    | (go_at_call 9; refine (New_any _).mono ?_; rintro e w4 ⟨rfl, hA, hb4⟩; have HA := Lib.hid hA; have Hb4 := Lib.hid hb4; clear hA hb4)
    | (go_at_call 10; refine (KQ.out w2).mono ?_; rintro e w3 ⟨rfl, hb3⟩; have HB3 := Lib.hid (HB2.out.trans (hb3.mono HB2.out.size)); have HX3 := Lib.hid (row_keep HX2.out hb3); have HY3 := Lib.hid (row_keep HY2.out hb3); clear hb3 hld2)
    | (go_at_call 10; refine (KP.out w1).mono ?_; rintro e w2 ⟨rfl, hb2⟩; have HB2 := Lib.hid (HB1.out.trans (hb2.mono HB1.out.size)); have HX2 := Lib.hid (row_keep HX1.out hb2); have HY2 := Lib.hid (row_keep HY1.out hb2); have hld2 := ldPol_run (pol_of_row (row_keep HY1.out hb2) Hq.out); clear hb2 hld))
  obtain ⟨Z, hZ⟩ : ∃ Z, w3.heap.size = Z := ⟨_, rfl⟩
  rw [hZ] at HA Hb4 ⊢
  have HZw := Lib.hid (show w.heap.size ≤ Z by rw [← hZ]; exact HB3.out.size)
  have HB4 := Lib.hid (show Below w.heap.size w w4 from HB3.out.trans (by have h := Hb4.out; rw [← hZ] at h; exact h.mono HB3.out.size))
  have HZ4 := Lib.hid (show Z ≤ w4.heap.size by have h := Hb4.out.size; omega)
  have HX4 := Lib.hid (row_keep HX3.out (by have h := Hb4.out; rw [← hZ] at h; exact h))
  have HY4 := Lib.hid (row_keep HY3.out (by have h := Hb4.out; rw [← hZ] at h; exact h))
  clear HB1 HB2 HB3 HX1 HX2 HX3 HY1 HY2 HY3 Hb4 KP KQ hZ
  have HIV := Lib.hid (show ∀ x ∈ xs, In64 x from Hu.out)
  clear hle'
  go_wp2
  go_loopw [8, 9] (fun lv iv wr => ∃ (i : Nat) (last : Int) (ks : List Int) (F : Int → Fl), lv = .int .i64 last ∧ iv = .int .i64 (i : Int) ∧ i ≤ n ∧ SchAt wr Z (Z + 1) ks F ∧ VerOk ks F last ∧ Below w.heap.size w wr ∧ Z ≤ wr.heap.size ∧
    wr.heap[w.heap.size]? = some (.cells #[.int .i64 p.re, .int .i64 p.we, .int .i64 p.li, .int .i64 p.bu] 29 (0, 0)) ∧ wr.heap[w.heap.size + 1]? = some (.cells #[.int .i64 q.re, .int .i64 q.we, .int .i64 q.li, .int .i64 q.bu] 29 (0, 0))) (fun _ iv _ => n - (intOf iv).toNat)
  case atStart => exact ⟨0, -1, [], fun _ => newFl, rfl, rfl, by omega, HA.out, .inl ⟨rfl, rfl⟩, HB4.out, HZ4.out, HX4.out, HY4.out⟩
  case round =>
    obtain ⟨i, last, ks, F, rfl, rfl, hin, hs, hv, hb, hz, hx, hy⟩ := hrel
    have Hs5 := Lib.hid hs; have Hv := Lib.hid hv; have Hb := Lib.hid hb; have Hz := Lib.hid hz; have HX := Lib.hid hx; have HY := Lib.hid hy
    clear hs hv hb hz hx hy HA HB4 HZ4 HX4 HY4
    by_cases hi : i < n
    · obtain ⟨g, o, x, rfl, hk, hc⟩ := Hs.out.num (j := i) (by rw [Hn.out]; exact hi)
      have hxin := HIV.out x (List.mem_of_getElem? hk)
      have HC := Lib.hid (fun (W : World) (hb : Below w.heap.size w W) => (hb.cell (block_lt_of_cell hc)).trans hc)
      have i0 : (0 : Int) ≤ (i : Int) := by omega
      have i1 : (i : Int) < (n : Int) := by omega
      clear hc hk
      obtain ⟨x1, x2⟩ := hxin
      have hld := ldPol_run (pol_of_row HX.out Hp.out)
      obtain ⟨wa, wo, ra, ba, xa, ro, bo, xo⟩ := use_store wr p q
      have hldq := ldPol_run (pol_of_row (row_keep HY.out ba) Hq.out)
      by_cases hpar : (i : Int) % 2 = 1
      case' pos =>
        go_upto_region 13 with fail
        obtain ⟨wU, hwU⟩ : ∃ W, wo = W := ⟨_, rfl⟩
        obtain ⟨U, hU⟩ : ∃ U, q = U := ⟨_, rfl⟩
        rw [hwU] at bo xo ⊢
        have HBU := Lib.hid bo
        have HXU := Lib.hid xo
        have HU := Lib.hid Hrq.out; have HUi := Lib.hid Hq.out
        rw [hU] at HXU HU HUi
        clear hU hwU hpar ra ba xa ro bo xo hldq hld
      case' neg =>
        go_upto_region 13 with fail
        obtain ⟨wU, hwU⟩ : ∃ W, wa = W := ⟨_, rfl⟩
        obtain ⟨U, hU⟩ : ∃ U, p = U := ⟨_, rfl⟩
        rw [hwU] at ba xa ⊢
        have HBU := Lib.hid ba
        have HXU := Lib.hid xa
        have HU := Lib.hid Hrp.out; have HUi := Lib.hid Hp.out
        rw [hU] at HXU HU HUi
        clear hU hwU hpar ra ba xa ro bo xo hldq hld
      all_goals
        have hks : ks = [] ∨ ks = [4] := by
          rcases Hv.out with ⟨h, _⟩ | ⟨h, _⟩
          · exact .inl h
          · exact .inr h
        have Hks := Lib.hid hks
        have hbz : Below Z wr wU := HBU.out.mono Hz.out
        have HS7 := Lib.hid (Hs5.out.below HBU.out)
        have HXp7 := Lib.hid (row_keep HX.out HBU.out)
        have HXq7 := Lib.hid (row_keep HY.out HBU.out)
        have HB7 := Lib.hid (Hb.out.trans (hbz.mono HZw.out))
        have HZ7 := Lib.hid (Nat.le_trans Hz.out HBU.out.size)
        clear hks hbz HX HY Hs5 HBU
        go_upto_region 14 with (go_at_call 18; refine (ver_get HS7.out Hks.out).mono ?_; rintro e wg ⟨v0, p0, c0, ok0, rfl, ht0, hi0, hbg⟩; obtain ⟨W2, w8, r2, r3, hb8, hx8⟩ := get_store wg p0 c0; have hbb : Below wU.heap.size wU w8 := hbg.trans (hb8.mono hbg.size); have HZ8 := Lib.hid (Nat.le_trans HZ7.out hbb.size); have HB8 := Lib.hid (HB7.out.trans ((hbb.mono HZ7.out).mono HZw.out)); have HS8 := Lib.hid (HS7.out.below hbb); have HX10 := Lib.hid (row_keep HXU.out hbb); have HX12 := Lib.hid hx8; have HXp8 := Lib.hid (row_keep HXp7.out hbb); have HXq8 := Lib.hid (row_keep HXq7.out hbb); have Ht0 := Lib.hid ht0; have Hi0 := Lib.hid hi0; clear ht0 hi0 hbg hb8 hx8 hbb)
        clear r2 r3 HS7 HXp7 HXq7 HB7 HZ7 HXU
        go_cut [15] (fun v wx => v = .int .i64 (setE ks F 4 x U) ∧ SchAt wx Z (Z + 1) (setK ks F 4 x U) (setG ks F 4 x U) ∧ KeptS Z w8 wx)
        case' first =>
          have hd : Below w8.heap.size w8 w8.drew := (Below.refl _ _).drew
          have HSd := Lib.hid (HS8.out.below hd)
          have hcx : w8.drew.cell? ⟨g, o + i, none⟩ = some (.int .i64 x) := HC.out _ (HB8.out.trans ((hd.mono HZ8.out).mono HZw.out))
          have hl10 := ldPol_run (pol_of_row (row_keep HX10.out hd) HUi.out)
          have Hd := Lib.hid hd
          clear hd
          go_region_with (go_at_call 11; refine (SSet_any Z (Z + 1) ks F 4 x U _ HSd.out (by unfold In64; decide) ⟨x1, x2⟩ HUi.out (by rcases Hks.out with h | h <;> rw [h] <;> decide) HZ8.out).mono ?_; rintro e w9 ⟨rfl, hs9, hk9⟩; have Hs9 := Lib.hid hs9; have Hk9 := Lib.hid hk9; clear hs9 hk9)
          all_goals
            go_wp2_with fail
            go_meet
            exact ⟨rfl, Hs9.out, (KeptS.of_below Hd.out).trans Hk9.out⟩
        case' rest =>
          obtain ⟨rfl, hs9, hk9⟩ := hcut
          have HZ9 := Lib.hid (Nat.le_trans HZ8.out hk9.size)
          have HB9 := Lib.hid (HB8.out.trans ((hk9.below HZ8.out).mono HZw.out))
          have H10 := Lib.hid (hk9.heap HX10.out (by unfold TouchS; decide))
          have H12 := Lib.hid (hk9.heap HX12.out (by unfold TouchS; decide))
          have HXp9 := Lib.hid (hk9.heap HXp8.out (by unfold TouchS; decide))
          have HXq9 := Lib.hid (hk9.heap HXq8.out (by unfold TouchS; decide))
          have hset := ver_set Hv.out x HU.out
          have hv := Hv.out
          have ht0 := Ht0.out
          clear HZ8 HB8 HS8 HX10 HX12 HXp8 HXq8 hk9 Hks Hb Hz
          have i2 : (0 : Int) ≤ (i : Int) + 1 := by omega
          rcases hset with ⟨e1, hx, e2, e3⟩ | ⟨e1, hx0, hx, rfl, e2, e3⟩ | ⟨e1, hx0, hx, e2, e3, e4⟩
        · rw [e2, e3] at hs9
          rw [e1]
          have n1 : ¬ 0 ≤ x := by omega
          have HS9 := Lib.hid hs9
          clear hs9 e1 e2 e3 hx ht0
          rcases hv with ⟨rfl, rfl⟩ | ⟨rfl, h0, hl⟩
          rotate_left
          have Hl := Lib.hid hl
          clear hl
          rotate_left
          · go_upto_region 16 with (go_at_call 18; refine (ver_get HS9.out (.inl rfl)).mono ?_; rintro e wh ⟨v1, p1, c1, ok1, rfl, ht1, hi1, hbg⟩; obtain ⟨W5, W6, r5, r6, hb6, hx6⟩ := get_store wh p1 c1; have hbb : Below wc.heap.size wc W6 := hbg.trans (hb6.mono hbg.size); have HZ6 := Lib.hid (Nat.le_trans HZ9.out hbb.size); have HB6 := Lib.hid (HB9.out.trans ((hbb.mono HZ9.out).mono HZw.out)); have hcx := HC.out _ HB6.out; have hl17 := ldPol_run (pol_of_row hx6 hi1); have hl10 := ldPol_run (pol_of_row (row_keep H10.out hbb) HUi.out); have hl12 := ldPol_run (pol_of_row (row_keep H12.out hbb) Hi0.out); have HS6 := Lib.hid (HS9.out.below hbb); have HXp6 := Lib.hid (row_keep HXp9.out hbb); have HXq6 := Lib.hid (row_keep HXq9.out hbb); obtain rfl := tells_none ht1; clear hb6 hbb hbg hx6 hi1)
            dsimp only [List.append]
            go_wp2
            go_roundw
            case rel => exact ⟨i + 1, -1, [], _, rfl, by go_num, by omega, HS6.out, Hv.out, HB6.out, HZ6.out, HXp6.out, HXq6.out⟩
            case measure => simp [intOf]; omega
          · go_upto_region 16 with (go_at_call 18; refine (ver_get HS9.out (.inr rfl)).mono ?_; rintro e wh ⟨v1, p1, c1, ok1, rfl, ht1, hi1, hbg⟩; obtain ⟨W5, W6, r5, r6, hb6, hx6⟩ := get_store wh p1 c1; have hbb : Below wc.heap.size wc W6 := hbg.trans (hb6.mono hbg.size); have HZ6 := Lib.hid (Nat.le_trans HZ9.out hbb.size); have HB6 := Lib.hid (HB9.out.trans ((hbb.mono HZ9.out).mono HZw.out)); have hcx := HC.out _ HB6.out; have hl17 := ldPol_run (pol_of_row hx6 hi1); have hl10 := ldPol_run (pol_of_row (row_keep H10.out hbb) HUi.out); have hl12 := ldPol_run (pol_of_row (row_keep H12.out hbb) Hi0.out); have HS6 := Lib.hid (HS9.out.below hbb); have HXp6 := Lib.hid (row_keep HXp9.out hbb); have HXq6 := Lib.hid (row_keep HXq9.out hbb); obtain ⟨t1, -, rfl⟩ := tells_is ht1; rw [← Hl.out] at t1; subst t1; clear hb6 hbb hbg hx6 hi1)
            dsimp only [List.append]
            go_wp2
            go_roundw
            case rel => exact ⟨i + 1, v1, [4], _, rfl, by go_num, by omega, HS6.out, Hv.out, HB6.out, HZ6.out, HXp6.out, HXq6.out⟩
            case measure => simp [intOf]; omega
        · rw [e2, e3] at hs9
          rw [e1]
          have n1 : ¬ last ≤ x := by omega
          have HS9 := Lib.hid hs9
          have hl : last = (F 4).ver := by
            rcases hv with ⟨h, _⟩ | ⟨_, _, h⟩
            · cases h
            · exact h
          have Hl := Lib.hid hl
          have hp0 : p0 = (F 4).p := by
            rcases ht0 with ⟨h, _⟩ | ⟨_, _, h, _⟩
            · cases h
            · exact h
          have Hp0 := Lib.hid hp0
          clear hs9 e1 e2 e3 hx ht0 hv hl hp0
          go_upto_region 16 with (go_at_call 18; refine (ver_get HS9.out (.inr rfl)).mono ?_; rintro e wh ⟨v1, p1, c1, ok1, rfl, ht1, hi1, hbg⟩; obtain ⟨W5, W6, r5, r6, hb6, hx6⟩ := get_store wh p1 c1; have hbb : Below wc.heap.size wc W6 := hbg.trans (hb6.mono hbg.size); have HZ6 := Lib.hid (Nat.le_trans HZ9.out hbb.size); have HB6 := Lib.hid (HB9.out.trans ((hbb.mono HZ9.out).mono HZw.out)); have hcx := HC.out _ HB6.out; have hl17 := ldPol_run (pol_of_row hx6 hi1); have hl10 := ldPol_run (pol_of_row (row_keep H10.out hbb) HUi.out); have hl12 := ldPol_run (pol_of_row (row_keep H12.out hbb) Hi0.out); have HS6 := Lib.hid (HS9.out.below hbb); have HXp6 := Lib.hid (row_keep HXp9.out hbb); have HXq6 := Lib.hid (row_keep HXq9.out hbb); obtain ⟨t1, t2, rfl⟩ := tells_is ht1; rw [← Hl.out] at t1; rw [← Hp0.out] at t2; subst t1; subst t2; clear hb6 hbb hbg hx6 hi1)
          dsimp only [List.append]
          go_wp2
          go_roundw
          case rel => exact ⟨i + 1, v1, [4], _, rfl, by go_num, by omega, HS6.out, Hv.out, HB6.out, HZ6.out, HXp6.out, HXq6.out⟩
          case measure => simp [intOf]; omega
        · rw [e2] at hs9
          rw [e1]
          have n1 : ¬ x < last := by omega
          obtain ⟨G, hG⟩ : ∃ G, setG ks F 4 x U = G := ⟨_, rfl⟩
          rw [hG] at hs9 e3 e4
          have HS9 := Lib.hid hs9
          have He3 := Lib.hid e3; have He4 := Lib.hid e4
          clear hs9 e1 e2 hx ht0 hv hG e3 e4
          go_upto_region 16 with (go_at_call 18; refine (ver_get HS9.out (.inr rfl)).mono ?_; rintro e wh ⟨v1, p1, c1, ok1, rfl, ht1, hi1, hbg⟩; obtain ⟨W5, W6, r5, r6, hb6, hx6⟩ := get_store wh p1 c1; have hbb : Below wc.heap.size wc W6 := hbg.trans (hb6.mono hbg.size); have HZ6 := Lib.hid (Nat.le_trans HZ9.out hbb.size); have HB6 := Lib.hid (HB9.out.trans ((hbb.mono HZ9.out).mono HZw.out)); have hcx := HC.out _ HB6.out; have hl17 := ldPol_run (pol_of_row hx6 hi1); have hl10 := ldPol_run (pol_of_row (row_keep H10.out hbb) HUi.out); have hl12 := ldPol_run (pol_of_row (row_keep H12.out hbb) Hi0.out); have HS6 := Lib.hid (HS9.out.below hbb); have HXp6 := Lib.hid (row_keep HXp9.out hbb); have HXq6 := Lib.hid (row_keep HXq9.out hbb); obtain ⟨t1, t2, rfl⟩ := tells_is ht1; rw [He3.out] at t1; rw [He4.out] at t2; subst t1; subst t2; clear hb6 hbb hbg hx6 hi1)
          dsimp only [List.append]
          go_wp2
          go_roundw
          case rel => exact ⟨i + 1, _, [4], _, rfl, by go_num, by omega, HS6.out, .inr ⟨rfl, hx0, He3.out.symm⟩, HB6.out, HZ6.out, HXp6.out, HXq6.out⟩
          case measure => simp [intOf]; omega
    · obtain rfl : i = n := by omega
      have i1 : ¬ (i : Int) < (i : Int) := by omega
      go_wp2_with (go_at_call 8; refine (awake_any wr).mono ?_; rintro e w4 ⟨rfl, hb4⟩; have B4 := Lib.hid (Hb.out.trans (hb4.mono Hb.out.size)); clear hb4)
      go_ret
      exact ⟨rfl, B4.out⟩
end Go.Proofs.Ytbfjakchgmdldaa.SchedVersions
