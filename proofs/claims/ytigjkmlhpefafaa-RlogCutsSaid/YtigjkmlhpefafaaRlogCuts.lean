/-
  RlogCuts: what is cut leaves the entries behind it, and their terms; what goes on is as without it (of 1 to 20 entries); it holds for every input, and the arguments stay as they were. No condition.
-/
import Derived.Test.YtigjkmlhpefafaaRlgTwo
import Derived.Test.YtigjkmlhpefafaaLaw
import Derived.Test.YtigjkmlhpefafaaRows
import Derived.Test.YtigjkmlhpefafaaChecked
namespace Go.Proofs.Ytigjkmlhpefafaa.RlogCuts
open Go.ChangeShapes Go.WideShapes Go.ChangeAt Go.RowKit
set_option linter.unusedVariables false

theorem termN_snoc (t : Int) (x : List Dat) (d : Dat) : termN t (x ++ [d]) (x.length + 1) = d.1 := by
  simp only [termN, List.getElem?_concat_length]
/-- the two logs, side by side -/
def TwoAt (B g : Nat) (base term : Int) (x y : List Dat) (w0 wr : World) : Prop :=
  ∃ q0 q1, LogD wr B B q0 base term x ∧ LogD wr B g q1 0 0 y ∧ Apart B q0 g q1 ∧ Below B w0 wr
/-- the first one is written -/
theorem TwoAt.first {B g : Nat} {base term base' term' : Int} {x x' y : List Dat} {w0 wr w w' : World} {q0 q1 : Option Nat} (h0 : LogD wr B B q0 base term x) (h1 : LogD wr B g q1 0 0 y) (ha : Apart B q0 g q1) (hb : Below B w0 wr) (hw : Below wr.heap.size wr w) (hB : B ≤ wr.heap.size) (hg : GrewL B B q0 base' term' x' w w') : TwoAt B g base' term' x' y w0 w' := by
  have k0 := h0.below hw
  have k1 := h1.below hw
  have k2 := hg.beside k0 k1 ha.symm
  have kb := hg.below k0 (Nat.le_trans hB hw.size)
  obtain ⟨q, h2, h3, -⟩ := hg
  exact ⟨q, q1, h2, k2, (Apart.grown ha.symm k1 h3).symm, (hb.trans (hw.mono hB)).trans kb⟩
/-- the second one is -/
theorem TwoAt.second {B g : Nat} {base term : Int} {x y y' : List Dat} {w0 wr w w' : World} {q0 q1 : Option Nat} (h0 : LogD wr B B q0 base term x) (h1 : LogD wr B g q1 0 0 y) (ha : Apart B q0 g q1) (hb : Below B w0 wr) (hw : Below wr.heap.size wr w) (hB : B ≤ wr.heap.size) (hg : GrewL B g q1 0 0 y' w w') : TwoAt B g base term x y' w0 w' := by
  have k0 := h0.below hw
  have k1 := h1.below hw
  have k2 := hg.beside k1 k0 ha
  have kb := hg.below k1 (Nat.le_trans hB hw.size)
  obtain ⟨q, h2, h3, -⟩ := hg
  exact ⟨q0, q, k2, h2, Apart.grown ha k0 h3, (hb.trans (hw.mono hB)).trans kb⟩

set_option maxRecDepth 100000 in
set_option maxHeartbeats 2000000 in
theorem walkIn (A : Option Addr) (n c : Nat) (bs : List UInt8) (cut more : Nat) (w : World) (hn : bs.length = n) (hs : Seen w A (bytesV bs)) (h0 : 1 ≤ n) (h1 : n ≤ 20) (hc : cut < 256) (hm : more < 256) :
    Calls Try.prog 4 #[.slice A n c, .int .u8 (cut : Int), .int .u8 (more : Int)] w fun e w' => e = .returned (.bool true) ∧ Below w.heap.size w w' := by
  have Hn := Lib.hid hn; have Hs := Lib.hid hs
  clear hn hs
  have f1 : ¬ (n : Int) > 20 := by omega
  have f2 : ¬ (n : Int) < 1 := by omega
  have c0 : (0 : Int) ≤ (cut : Int) := by omega
  have m0 : (0 : Int) ≤ (more : Int) := by omega
  obtain ⟨B, hB⟩ : ∃ B, w.heap.size = B := ⟨_, rfl⟩
  go_enter Try.func4, Try.ntmps4
  go_wp2_with fail
  refine (New_yes 0 0 w (by omega) (by omega)).mono ?_
  rintro en w1 ⟨rfl, l1, b1, z1⟩
  go_wp2_with fail
  refine (New_yes 0 0 w1 (by omega) (by omega)).mono ?_
  rintro en w2 ⟨rfl, x2, b2, z2⟩
  have BW := Lib.hid (b1.trans (b2.mono (Nat.le_of_lt z1)))
  have LL := Lib.hid (l1.below b2)
  have XX := Lib.hid (x2.base (B := w.heap.size) (Nat.le_of_lt z1))
  obtain ⟨g, hg⟩ : ∃ g, w1.heap.size = g := ⟨_, rfl⟩
  rw [hg] at XX z1 z2 ⊢
  rw [hB] at LL XX z1
  have hgB : B < g := z1
  have hg2 : g < w2.heap.size := z2
  have HB := Lib.hid hB
  clear l1 x2 b1 b2 hg hB z1 z2
  have BB := Lib.hid (show ∀ wr, Below B w2 wr → Below w.heap.size w wr from fun wr h => BW.out.trans (by rw [HB.out]; exact h))
  go_upto_region 8 with fail
  go_loopw [9, 10] (fun tv iv wr => ∃ (i : Nat) (t : Int) (L : List Dat), i ≤ n ∧ iv = .int .i64 (i : Int) ∧ tv = .int .i64 t ∧ 0 ≤ t ∧ t ≤ 1 + i ∧ L.length = i ∧ TwoAt B g 0 0 L L w2 wr) (fun _ iv _ => n - (intOf iv).toNat)
  case atStart => exact ⟨0, 1, [], by omega, rfl, rfl, by omega, by omega, rfl, none, none, LL.out, XX.out, Apart.none (by omega), Below.refl _ _⟩
  case round =>
    obtain ⟨i, t, L, hi, rfl, rfl, ht0, ht1, hL, q0, q1, ha, hb, hap, hbw⟩ := hrel
    have HL := Lib.hid hL; have Ha := Lib.hid ha; have Hb := Lib.hid hb; have Hap := Lib.hid hap; have Hbw := Lib.hid hbw
    have hBr : B ≤ wr.heap.size := by have := hbw.size; omega
    have HBr := Lib.hid hBr
    clear hL ha hb hap hbw hBr
    have i0 : (0 : Int) ≤ (i : Int) := by omega
    by_cases hlt : i < n
    · have bw := BB.out wr Hbw.out
      obtain ⟨gA, o, b, rfl, -, -, hcell⟩ := (Hs.out.below bw).byteAt (j := i) (by have := Hn.out; omega)
      obtain ⟨z, hz⟩ : ∃ z, b.toNat = z := ⟨_, rfl⟩
      have hzb : z < 256 := by rw [← hz]; exact b.toNat_lt
      rw [hz] at hcell
      have z0 : (0 : Int) ≤ (z : Int) := by omega
      have i1 : (i : Int) < (n : Int) := by omega
      obtain ⟨W, hW, hbW, hsW⟩ := byte_box wr (i := i) (by omega)
      obtain ⟨t', ht'⟩ : ∃ t', t + (z : Int) % 2 = t' := ⟨_, rfl⟩
      have ht2 : 0 ≤ t' ∧ t' ≤ 2 + i := by omega
      have KP := Lib.hid (Push_any B B i q0 0 0 L t' 0 (some ⟨wr.heap.size, 0, none⟩) 1 1 [UInt8.ofNat i] W (Ha.out.below hbW) HL.out (by omega) (by omega) (by omega) rfl (by omega) hsW (Nat.le_trans HBr.out hbW.size))
      have HbW := Lib.hid hbW
      clear bw hz hbW hsW
      go_wp2_with fail
      refine KP.out.mono ?_
      rintro en w4 ⟨rfl, h4⟩
      obtain ⟨p0, p1, ha4, hb4, hap4, hbw4⟩ := TwoAt.first Ha.out Hb.out Hap.out Hbw.out HbW.out HBr.out h4
      have hBr4 : B ≤ w4.heap.size := by have := hbw4.size; omega
      obtain ⟨W4, hW4, hbW4, hsW4⟩ := byte_box w4 (i := i) (by omega)
      have KQ := Lib.hid (Push_any B g i p1 0 0 L t' 0 (some ⟨w4.heap.size, 0, none⟩) 1 1 [UInt8.ofNat i] W4 (hb4.below hbW4) HL.out (by omega) (by omega) (by omega) rfl (by omega) hsW4 (Nat.le_trans hBr4 hbW4.size))
      have Ha4 := Lib.hid ha4; have Hb4 := Lib.hid hb4; have Hap4 := Lib.hid hap4; have Hbw4 := Lib.hid hbw4; have HbW4 := Lib.hid hbW4; have HBr4 := Lib.hid hBr4
      clear h4 ha4 hb4 hap4 hbw4 hbW4 hsW4 hBr4 KP
      go_wp2_with fail
      refine KQ.out.mono ?_
      rintro en w5 ⟨rfl, h5⟩
      have H5 := Lib.hid (TwoAt.second Ha4.out Hb4.out Hap4.out Hbw4.out HbW4.out HBr4.out h5)
      clear h5
      go_wp2
      go_roundw
      case rel => exact ⟨i + 1, t', L ++ [(t', 0, [UInt8.ofNat i])], by omega, by go_num, rfl, ht2.1, by omega, by rw [List.length_append, HL.out]; rfl, H5.out⟩
      case measure => simp [intOf]; omega
    · obtain rfl : i = n := by omega
      obtain ⟨k, hk⟩ : ∃ k, cut % (i + 1) = k := ⟨_, rfl⟩
      have hki : k ≤ i := by rw [← hk]; have := Nat.mod_lt cut (show 0 < i + 1 by omega); omega
      have hke : (cut : Int) % ((i : Int) + 1) = (k : Int) := by rw [← hk]; exact (Int.natCast_emod cut (i + 1)).symm
      have KC := Lib.hid (Cut_D B B i k q0 0 0 (k : Int) L wr Ha.out HL.out (by omega) (by omega) hki (by omega) (by omega) HBr.out)
      obtain ⟨tk, htk⟩ : ∃ tk, termN 0 L k = tk := ⟨_, rfl⟩
      obtain ⟨x, hx⟩ : ∃ x, L.drop k = x := ⟨_, rfl⟩
      rw [htk, hx] at KC
      have Hx := Lib.hid hx
      have hxl : x.length = i - k := by rw [← hx, List.length_drop, HL.out]
      have Hxl := Lib.hid hxl
      clear hk htk hx hxl
      go_wp2_with fail
      refine KC.out.mono ?_
      rintro en w4 ⟨rfl, h4⟩
      obtain ⟨p0, p1, ha4, hb4, hap4, hbw4⟩ := TwoAt.first Ha.out Hb.out Hap.out Hbw.out (Below.refl _ _) HBr.out h4
      have hBr4 : B ≤ w4.heap.size := by have := hbw4.size; omega
      obtain ⟨u, hu⟩ : ∃ u, t + (more : Int) = u := ⟨_, rfl⟩
      have KP := Lib.hid (Push_any B B (i - k) p0 (k : Int) tk x u 1 none 0 0 [] w4 ha4 Hxl.out (by omega) (by omega) (by omega) rfl (by omega) (Seen.nil _ _) hBr4)
      have Ha4 := Lib.hid ha4; have Hb4 := Lib.hid hb4; have Hap4 := Lib.hid hap4; have Hbw4 := Lib.hid hbw4; have HBr4 := Lib.hid hBr4
      clear h4 ha4 hb4 hap4 hbw4 hBr4 KC
      go_wp2_with fail
      refine KP.out.mono ?_
      rintro en w5 ⟨rfl, h5⟩
      obtain ⟨r0, r1, ha5, hb5, hap5, hbw5⟩ := TwoAt.first Ha4.out Hb4.out Hap4.out Hbw4.out (Below.refl _ _) HBr4.out h5
      have hBr5 : B ≤ w5.heap.size := by have := hbw5.size; omega
      have KQ := Lib.hid (Push_any B g i r1 0 0 L u 1 none 0 0 [] w5 hb5 HL.out (by omega) (by omega) (by omega) rfl (by omega) (Seen.nil _ _) hBr5)
      have Ha5 := Lib.hid ha5; have Hb5 := Lib.hid hb5; have Hap5 := Lib.hid hap5; have Hbw5 := Lib.hid hbw5; have HBr5 := Lib.hid hBr5
      clear h5 ha5 hb5 hap5 hbw5 hBr5 KP
      go_wp2_with fail
      refine KQ.out.mono ?_
      rintro en w6 ⟨rfl, h6⟩
      obtain ⟨s0, s1, ha6, hb6, hap6, hbw6⟩ := TwoAt.second Ha5.out Hb5.out Hap5.out Hbw5.out (Below.refl _ _) HBr5.out h6
      have hBr6 : B ≤ w6.heap.size := by have := hbw6.size; omega
      obtain ⟨N, hN⟩ : ∃ N, i - k + 1 = N := ⟨_, rfl⟩
      have xl : (x ++ [((u : Int), (1 : Int), ([] : List UInt8))]).length = N := by rw [List.length_append, Hxl.out]; exact hN
      have yl : (L ++ [((u : Int), (1 : Int), ([] : List UInt8))]).length = i + 1 := by rw [List.length_append, HL.out]; rfl
      have K1 := fun w' (b : Below w6.heap.size w6 w') => Last_D B B N s0 (k : Int) tk _ w' (ha6.below b) xl (by omega) (by omega) (by omega)
      have K2 := fun w' (b : Below w6.heap.size w6 w') => Last_D B g (i + 1) s1 0 0 _ w' (hb6.below b) yl (by omega) (by omega) (by omega)
      have t1 : termN tk (x ++ [(u, 1, [])]) N = u := by rw [← hN, ← Hxl.out, termN_snoc]
      have t2 : termN 0 (L ++ [(u, 1, [])]) (i + 1) = u := by rw [← HL.out, termN_snoc]
      obtain ⟨V, hV⟩ : ∃ V : Int, (i : Int) + 1 = V := ⟨_, rfl⟩
      rw [t1, show (k : Int) + (N : Int) = V by omega] at K1
      rw [t2, show (0 : Int) + ((i + 1 : Nat) : Int) = V by omega] at K2
      have K3 := fun w' (b : Below w6.heap.size w6 w') => Cut_noD B B N s0 (k : Int) tk ((k : Int) - 1) _ w' (ha6.below b) xl (by omega) (.inl (by omega)) (by omega)
      have K4 := fun w' (b : Below w6.heap.size w6 w') => From_any B B N 0 99 s0 (k : Int) tk ((k : Int) + 1) _ w' (ha6.below b) xl (by omega) (by omega) (by omega) (by omega) (by omega) (by omega) (by omega)
      have K5 := fun w' (b : Below w6.heap.size w6 w') => From_any B g (i + 1) k 99 s1 0 0 ((k : Int) + 1) _ w' (hb6.below b) yl (by omega) (by omega) (by omega) (by omega) (by omega) (by omega) (by omega)
      have d1 : ((x ++ [(u, 1, [])]).drop 0).take 99 = x ++ [(u, 1, [])] := by rw [List.drop_zero, List.take_of_length_le (by rw [xl]; omega)]
      have d2 : ((L ++ [(u, 1, [])]).drop k).take 99 = x ++ [(u, 1, [])] := by
        rw [List.drop_append_of_le_length (by rw [HL.out]; exact hki), Hx.out, List.take_of_length_le (by rw [xl]; omega)]
      rw [d1, show min 99 (N - 0) = N by omega] at K4
      rw [d2, show min 99 (i + 1 - k) = N by omega] at K5
      rw [show ((99 : Nat) : Int) = 99 from rfl] at K4 K5
      have hne : ((N : Int) != (i : Int) + 1 - (k : Int)) = false := by simp; omega
      have hNi : N ≤ 21 := by omega
      have K1 := Lib.hid K1; have K2 := Lib.hid K2; have K3 := Lib.hid K3; have K4 := Lib.hid K4; have K5 := Lib.hid K5
      have Hbw6 := Lib.hid hbw6; have HBr6 := Lib.hid hBr6
      clear h6 ha6 hb6 hap6 hbw6 hBr6 hN xl yl t1 t2 hV d1 d2 KQ hu
      go_wp2_with fail
      refine (K1.out w6 (Below.refl _ _)).mono ?_
      rintro en w7 ⟨rfl, b7⟩
      have B7 := Lib.hid b7
      clear b7
      go_wp2_with fail
      refine (K2.out w7 B7.out).mono ?_
      rintro en w8 ⟨rfl, b8⟩
      have B8 := Lib.hid (B7.out.trans (b8.mono B7.out.size))
      clear b8
      go_wp2_with fail
      refine (K3.out w8 B8.out).mono ?_
      rintro en w9 ⟨rfl, b9⟩
      have B9 := Lib.hid (B8.out.trans (b9.mono B8.out.size))
      clear b9
      go_wp2_with fail
      refine (K4.out w9 B9.out).mono ?_
      rintro en w10 ⟨A10, c10, Z10, rfl, -, -, -, b10⟩
      have B10 := Lib.hid (B9.out.trans (b10.mono B9.out.size))
      clear b10
      go_wp2_with fail
      refine (K4.out w10 B10.out).mono ?_
      rintro en w11 ⟨A11, c11, Z11, rfl, o11, k11, d11, b11⟩
      have B11 := Lib.hid (B10.out.trans (b11.mono B10.out.size))
      have E11 := Lib.hid (EntsAt.mk (own_seen o11) k11)
      have L11 := Lib.hid (show Z11.length = N by have := o11.1; rw [entsV_length] at this; omega)
      have D11 := Lib.hid d11
      clear b11 o11 k11 d11
      go_wp2_with fail
      refine (K5.out w11 B11.out).mono ?_
      rintro en w12 ⟨A12, c12, Z12, rfl, o12, k12, d12, b12⟩
      have B12 := Lib.hid (B11.out.trans (b12.mono B11.out.size))
      have KS := Lib.hid (SameE_yes A11 A12 N c11 c12 Z11 Z12 w12 L11.out (E11.out.below b12) ⟨own_seen o12, k12⟩ (D11.out.trans d12.symm) (by omega))
      have BF := Lib.hid (BB.out w12 (Hbw6.out.trans (B12.out.mono HBr6.out)))
      clear b12 o12 k12 d12
      go_wp2_with (first
        | (go_at_call 11; refine KS.out.mono ?_; rintro en w13 ⟨rfl, b13⟩; have B13 := Lib.hid (BF.out.trans (b13.mono BF.out.size)); clear b13)
        | (go_at_call 5; refine (awake_any w13).mono ?_; rintro en w14 ⟨rfl, b14⟩; have B14 := Lib.hid (B13.out.trans (b14.mono B13.out.size)); clear b14))
      go_ret
      exact ⟨rfl, B14.out⟩

theorem walk (A : Option Addr) (n c : Nat) (bs : List UInt8) (cut more : Int) (w : World) (hn : bs.length = n) (hnc : n ≤ c) (hcm : c ≤ maxLen) (hs : Seen w A (bytesV bs)) (hc : (Lit.int .u8 cut).wf = true) (hm : (Lit.int .u8 more).wf = true) :
    Calls Try.prog 4 #[.slice A n c, .int .u8 cut, .int .u8 more] w fun e w' => e = .returned (.bool true) ∧ Below w.heap.size w w' := by
  have hc1 := bounds_u8 hc
  have hm1 := bounds_u8 hm
  by_cases h0 : 1 ≤ n
  · by_cases h1 : n ≤ 20
    · obtain ⟨a, rfl⟩ : ∃ a : Nat, cut = (a : Int) := ⟨cut.toNat, by omega⟩
      obtain ⟨b, rfl⟩ : ∃ b : Nat, more = (b : Int) := ⟨more.toNat, by omega⟩
      exact walkIn A n c bs a b w hn hs h0 h1 (by omega) (by omega)
    · have e1 : ¬ (n : Int) < 1 := by omega
      have e2 : (n : Int) > 20 := by omega
      clear hn hnc hcm hs hc hm hc1 hm1
      go_enter Try.func4, Try.ntmps4
      go_wp2_with (go_at_call 5; refine (awake_any w).mono ?_; rintro e w4 ⟨rfl, hb4⟩; have B4 := Lib.hid hb4; clear hb4)
      go_ret
      exact ⟨rfl, B4.out⟩
  · have e1 : (n : Int) < 1 := by omega
    clear hn hnc hcm hs hc hm hc1 hm1
    go_enter Try.func4, Try.ntmps4
    go_wp2_with (go_at_call 5; refine (awake_any w).mono ?_; rintro e w4 ⟨rfl, hb4⟩; have B4 := Lib.hid hb4; clear hb4)
    go_ret
    exact ⟨rfl, B4.out⟩

/-! ### THE ROW -/
theorem own : ownKnob Try.prog.godebug = none := by kernel_rfl

set_option maxRecDepth 100000 in
theorem lifted (os : Os) (started : os.Started) (H : Type) (enc : TypeId × Value → H) :
    ReturnsInHanded {} Try.checked os 4 .any (Rows.rlogCutsSpec.pre6 enc Try.prog Try.f4 Rows.rlogCutsRow.domain false) (Rows.rlogCutsSpec.post enc Try.prog Try.f4 false true false false) := by
  refine returnsInHanded_of_change (C := Try.checked) own started (by kernel_rfl) Try.func4
    (ChangeSpec.witness6 (enc := enc) (C := Try.checked) false ⟨#[], #[.slice none 0 0, .int .u8 0, .int .u8 0], []⟩ 8 (by kernel_rfl) (by kernel_rfl) (by kernel_rfl) (by kernel_rfl)) ?_
  intro W base args ds gs before hval0 hW hcnd _
  have hval : ∀ (j : Nat) t v, Try.f4.params[j]? = some t → args[j]? = some v → Value.okWide Try.prog W .any base t v := hval0
  have hW' := hW
  obtain ⟨p, q, hA0, hV, rfl, hfz, hnd⟩ := hW
  have hA : DataW.TrodAll enc Try.prog W 0 (fun _ => true) true Try.f4.params.toList args.toList ds p := hA0
  rw [Try.params4] at hA hval
  obtain ⟨v0, vs0, d0, ds0, p0, q0, hargs, rfl, rfl, h0, r0⟩ := trodAll_cons hA
  obtain ⟨v1, vs1, d1, ds1, p1, q1, rfl, rfl, rfl, h1, r1⟩ := trodAll_cons r0
  obtain ⟨v2, vs2, d2, ds2, p2, q2, rfl, rfl, rfl, h2, r2⟩ := trodAll_cons r1
  obtain ⟨rfl, rfl, rfl⟩ := trodAll_nil r2
  obtain rfl : args = #[v0, v1, v2] := by cases args; simp_all
  obtain ⟨rfl, rfl⟩ := trodVars_none hV
  obtain ⟨A0, n0, c0, bs0, rfl, hn0, hnc0, hcm0, hsee0⟩ := open_bytes Try.underlying22 Try.underlying5 (by kernel_rfl) (hval 0 22 v0 rfl rfl) h0
  obtain ⟨a1, rfl, rfl, rfl, w1⟩ := open_int Try.underlying5 (hval 1 5 v1 rfl rfl) h1
  obtain ⟨a2, rfl, rfl, rfl, w2⟩ := open_int Try.underlying5 (hval 2 5 v2 rfl rfl) h2
  refine (walk A0 n0 c0 bs0 a1 a2 W hn0 hnc0 hcm0 hsee0 w1 w2).mono fun e W' ⟨he, hg⟩ => ?_
  subst he
  exact ⟨_, rfl, law_post hW' rfl (by kernel_rfl) (by kernel_rfl) (by kernel_rfl) Try.underlying4 rfl rfl rfl hg⟩

theorem over : Rows.rlogCutsRow.holds Try.pinned (OpenSpec.ofChange Rows.rlogCutsSpec) :=
  OpenClaim.holds_of_wide 4 Try.f4 rfl rfl rfl rfl rfl rfl rfl ⟨rfl, rfl, rfl, rfl, rfl⟩ rfl rfl rfl rfl rfl (by kernel_rfl) Try.func4 (by kernel_rfl)
    (of_decide_eq_true (by kernel_rfl)) (by unfold Func.isWrapper; first | (rw [if_pos (by decide +kernel)]; kernel_rfl) | (rw [if_neg (by decide +kernel)]; exact ⟨rfl, rfl⟩))
    (fun os started H enc _ => lifted os started H enc)

theorem proved : Rows.RlogCutsSaid :=
  over
#print axioms proved

end Go.Proofs.Ytigjkmlhpefafaa.RlogCuts
