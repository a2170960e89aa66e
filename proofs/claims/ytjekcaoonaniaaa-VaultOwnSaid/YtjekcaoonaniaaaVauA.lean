/-
  Contract of dotterellaw06.awake.
-/
import Derived.Test.YtjekcaoonaniaaaVauUse
import Derived.Test.YtjekcaoonaniaaaSame
namespace Go.Proofs.Ytjekcaoonaniaaa
open Go.ChangeShapes Go.WideShapes Go.ChangeAt Go.RowKit Go.Maps
set_option linter.unusedVariables false

theorem u8_nat {a : Int} (h : (Lit.int .u8 a).wf = true) : ∃ x : Nat, a = (x : Int) ∧ x < 256 := by
  have hb := bounds_u8 h
  exact ⟨a.toNat, by omega, by omega⟩
theorem u16_nat {a : Int} (h : (Lit.int .u16 a).wf = true) : ∃ x : Nat, a = (x : Int) ∧ x < 65536 := by
  have hb := bounds_u16 h
  exact ⟨a.toNat, by omega, by omega⟩

theorem awake_fit : (Vt.new 20).fits ⟨4, some [1]⟩ := by
  have hc : (⟨4, some [1]⟩ : Chg).Ok := ⟨by show (0 : Int) ≤ 4; omega, by show (4 : Int) ≤ _; omega, by show (1 : Nat) ≤ 900; omega⟩
  have ht := Chg.text_le hc (l := 1) (Nat.le_refl _)
  unfold Vt.fits
  rw [many_one (by show 0 ≤ _; omega) (by show 0 ≤ _; omega) (by omega)]
  show 1 ≤ 10 - 0
  omega

set_option maxRecDepth 100000 in
set_option maxHeartbeats 2000000 in
theorem awake_any (w : World) : Calls Try.prog 11 #[] w fun e w' => e = .returned (.bool true) ∧ Below w.heap.size w w' := by
  obtain ⟨B, hB⟩ : ∃ B, w.heap.size = B := ⟨_, rfl⟩
  have HB := Lib.hid hB; clear hB
  go_enter Try.func11, Try.ntmps11
  go_wp2_with fail
  refine (New_any 20 w (by omega) (by omega)).mono ?_
  rw [HB.out]
  rintro e w1 ⟨g, s, rfl, hd, hb⟩
  have Hd1 := Lib.hid hd; have Hb1 := Lib.hid hb
  clear hd hb
  have hB1 : B ≤ w1.heap.size := by have := Hb1.out.size; have := HB.out; omega
  go_wp2_with fail
  refine (VOpen_any B g s none (Dv.new 20) (Vt.new 20) w1 Hd1.out (DevOk.new (by omega) (by omega)) (Vt.new_ok (by omega) (by omega))).mono ?_
  rintro e w2 ⟨v, rfl, hv, hiv, ht⟩
  have Hv2 := Lib.hid hiv
  have Hb2 := Lib.hid (Hb1.out.trans ((keptV_dev Hd1.out ht).below hB1))
  have hB2 : B ≤ w2.heap.size := hiv.size
  clear hv hiv ht
  go_wp2_with fail
  have hal := (Below.refl w2.heap.size w2).alloc (Nat.le_refl _) (.cells #[.int .u8 1] 5)
  have Hal := Lib.hid hal
  have Hv3 := Lib.hid (Hv2.out.below hal)
  refine (Put_any B v g s (Vt.new 20) 4 (some ⟨w2.heap.size, 0, none⟩) 1 1 [1] _ Hv3.out (by omega) (by omega) rfl (by omega) (Seen.of_cells (heap_alloc_new w2 _))).mono ?_
  intro e w3 hp
  obtain ⟨rfl, hv3, hk⟩ := hp.fit (by omega) (by omega) (by show (1 : Nat) ≤ 900; omega) awake_fit
  have Hb3 := Lib.hid ((Hb2.out.trans (Hal.out.mono hB2)).trans (hk.below Hv3.out.size))
  obtain ⟨r3, d3, hd3, hdo3⟩ := hv3.dev
  have Hd3 := Lib.hid hd3; have Hdo3 := Lib.hid hdo3; have Hok3 := Lib.hid hv3.ok
  have hB3 : B ≤ w3.heap.size := hv3.size
  clear hp hv3 hk hd3 hdo3 hal
  go_wp2_with fail
  refine (Boot_any B g s r3 d3 none 0 0 [] w3 Hd3.out (by rw [Hdo3.out.L]; exact Nat.zero_le _) rfl (.inl rfl) (by omega)).mono ?_
  rintro e w4 ⟨rfl, hm⟩
  have Hb4 := Lib.hid (Hb3.out.trans ((KeptV.moved Hd3.out hm).below hB3))
  obtain ⟨r4, hd4, _, _⟩ := hm
  have Hd4 := Lib.hid hd4; have Hdo4 := Lib.hid (Hdo3.out.boot [])
  have hB4 : B ≤ w4.heap.size := by have := Hb4.out.size; have := HB.out; omega
  clear hd4
  go_wp2_with fail
  refine (VOpen_any B g s r4 _ _ w4 Hd4.out Hdo4.out Hok3.out).mono ?_
  rintro e w5 ⟨u, rfl, hu, hiu, ht⟩
  have Hr5 := Lib.hid hiu.read
  have Hb5 := Lib.hid (Hb4.out.trans ((keptV_dev Hd4.out ht).below hB4))
  have hB5 : B ≤ w5.heap.size := hiu.size
  rw [Vt.noted_x] at Hr5
  clear hu hiu ht
  go_wp2_with fail
  refine (Get_any B u _ _ 4 w5 Hr5.out (by omega) (by omega)).mono ?_
  intro e w6 hg
  obtain ⟨A6, c6, rfl, hown, hb6⟩ := GetRet.one (k := 4) (b := [1]) hg
  have Ho6 := Lib.hid hown
  have Hb6 := Lib.hid (Hb5.out.trans (hb6.mono hB5))
  have hB6 : B ≤ w6.heap.size := by have := hb6.size; omega
  clear hg hown hb6
  go_wp2_with fail
  refine (VOpen_nil w6).mono ?_
  rintro e w7 ⟨rfl, rfl⟩
  go_wp2_with fail
  have hal := (Below.refl w6.heap.size w6).alloc (Nat.le_refl _) (.cells #[.int .u8 1] 5)
  have hs := Same_any A6 (some ⟨w6.heap.size, 0, none⟩) 1 1 c6 1 [1] [1] _ rfl rfl ((Seen.of_own Ho6.out).below hal) (Seen.of_cells (heap_alloc_new w6 _)) (by omega)
  rw [decide_eq_true rfl] at hs
  refine hs.mono ?_
  rintro e w8 ⟨rfl, hb8⟩
  have Hb8 := Lib.hid (Hb6.out.trans ((hal.mono hB6).trans (hb8.mono (by have := hal.size; omega))))
  clear hal hs hb8
  go_wp2
  go_ret
  rw [HB.out]
  exact ⟨rfl, Hb8.out⟩
end Go.Proofs.Ytjekcaoonaniaaa
