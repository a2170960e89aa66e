/-
  SchedOrder: a flow's items are picked in their order, whatever else is picked between (of 60 items, 3 flows); it holds for every input, and the argument stays as it was. No condition.
-/
import Derived.Test.YtbfjakchgmdldaaSchOrd
import Derived.Test.YtbfjakchgmdldaaLaw
import Derived.Test.YtbfjakchgmdldaaRows
import Derived.Test.YtbfjakchgmdldaaChecked
namespace Go.Proofs.Ytbfjakchgmdldaa.SchedOrder
open Go.ChangeShapes Go.WideShapes Go.ChangeAt Go.RowKit
set_option linter.unusedVariables false

def laRow (la : Nat → Int) : Array Value := #[.int .i64 (la 0), .int .i64 (la 1), .int .i64 (la 2)]
theorem byte_rem (y : UInt8) {k : Nat} (h : (wrap64 (y.toNat : Int)).tmod 3 = (k : Int)) : (IntKind.i64.wrap (y.toNat : Int)).tmod 3 = k := by
  have h1 := y.toNat_lt
  have e : wrap64 (y.toNat : Int) = (y.toNat : Int) := by unfold wrap64; omega
  rw [wrap_in _ (by omega) (by omega)]
  rwa [e] at h
/-- what one store into the row of the last names leaves -/
theorem order_set {w w9 : World} {Z s g k : Nat} {x : Nat} {G : Int → Fl} {la : Nat → Int} (hA : SchAt w9 Z s [0, 1, 2] G) (hx : w9.heap[g]? = some (.cells (laRow la) 53 (0, 0))) (hb : Below Z w w9) (hg : Z ≤ g) (m : Nat) (hk : laRow (laSet la k x) = (laRow la).setIfInBounds k (.int .i64 (x : Int))) (hz : Z ≤ w9.heap.size) :
    SchAt ((w9.drewN m).setCell ⟨g, k, none⟩ (.int .i64 (x : Int))) Z s [0, 1, 2] G ∧ ((w9.drewN m).setCell ⟨g, k, none⟩ (.int .i64 (x : Int))).heap[g]? = some (.cells (laRow (laSet la k x)) 53 (0, 0)) ∧ Below Z w ((w9.drewN m).setCell ⟨g, k, none⟩ (.int .i64 (x : Int))) := by
  have hd : Below w9.heap.size w9 (w9.drewN m) := below_drewN (Below.refl _ _) _
  have hx2 := (hd.block _ (Array.getElem?_eq_some_iff.1 hx).1).trans hx
  have ht : Turned (fun j => j = g) (w9.drewN m) ((w9.drewN m).setCell ⟨g, k, none⟩ (.int .i64 (x : Int))) := set_wo (g := g) k _
  refine ⟨(hA.below hd).turned ht fun j hj o ho => ?_, ?_, (hb.trans (hd.mono hz)).trans (ht.below (fun j hj => by rw [hj]; exact hg) (Nat.le_trans hz hd.size))⟩
  · rw [hj, hx2] at ho
    injection ho with ho
    exact ⟨_, _, _, ho.symm, by unfold TouchS; decide⟩
  · rw [hk]
    exact row_set hx2 k _
set_option maxRecDepth 100000 in
set_option maxHeartbeats 4000000 in
theorem walkIn (A : Option Addr) (n cap : Nat) (bs : List UInt8) (w : World) (hn : bs.length = n) (hle : n ≤ 60) (hs : Seen w A (bytesV bs)) :
    Calls Try.prog 7 #[.slice A n cap] w fun e w' => e = .returned (.bool true) ∧ Below w.heap.size w w' := by
  obtain ⟨Z, hZ⟩ : ∃ Z, w.heap.size = Z := ⟨_, rfl⟩
  have KN := Lib.hid (New_any w)
  unfold NewRet at KN
  rw [hZ] at KN
  have HZ := Lib.hid hZ
  have Hn := Lib.hid hn; have Hs := Lib.hid hs
  have hle' : ¬ (60 : Int) < (n : Int) := by omega
  clear hZ hn hs
  have hz : ∀ (W : World), Below Z w W → Z ≤ W.heap.size := fun _ h => by have := h.size; have := HZ.out; omega
  have Hz := Lib.hid hz
  clear hz
  have HS := Lib.hid (fun (W : World) (hb : Below Z w W) => show Seen W A (bytesV bs) from Hs.out.below (by rw [HZ.out]; exact hb))
  go_enter Try.func7, Try.ntmps7
  go_upto_region 6 with (go_at_call 9; refine KN.out.mono ?_; rintro e w1 ⟨rfl, hA, hb1⟩; have HA := Lib.hid hA; have Hb1 := Lib.hid hb1; clear hA hb1)
  clear KN
  go_wp2
  go_loopw [4] (fun iv wr => ∃ (i : Nat), iv = .int .i64 (i : Int) ∧ i ≤ 3 ∧ SchAt wr Z (Z + 1) (ordK i) (ordG i) ∧ Below Z w wr) (fun iv _ => 3 - (intOf iv).toNat)
  case atStart => exact ⟨0, rfl, by omega, HA.out.congr fun k hk => (by cases hk), Hb1.out⟩
  case round =>
    obtain ⟨i, rfl, hi, hs, hb⟩ := hrel
    have Hs2 := Lib.hid hs; have Hb2 := Lib.hid hb
    clear hs hb HA Hb1
    have i0 : (0 : Int) ≤ (i : Int) := by omega
    by_cases h3 : i < 3
    · have i1 : (i : Int) < 3 := by omega
      have wi := wrap_in ((i : Int) + 1) (by omega) (by omega)
      have wi2 := wrap_in (1 + (i : Int)) (by omega) (by omega)
      have wi3 := wrap_in (300 * (i : Int)) (by omega) (by omega)
      go_wp2_with (go_at_call 11; refine (ord_set h3 Hs2.out (Hz.out _ Hb2.out)).mono ?_; rintro e w3 ⟨rfl, hA, hk⟩; have HA3 := Lib.hid hA; have Hb3 := Lib.hid (Hb2.out.trans (hk.below (Hz.out _ Hb2.out))); clear hA hk)
      go_roundw
      case rel => exact ⟨i + 1, by go_num, by omega, HA3.out, Hb3.out⟩
      case measure => simp [intOf]; omega
    · obtain rfl : i = 3 := by omega
      have i1 : ¬ ((3 : Nat) : Int) < 3 := by decide
      clear h3 hi i0
      go_wp2
      go_loopw [5] (fun iv wr => ∃ (i : Nat) (F : Int → Fl), iv = .int .i64 (i : Int) ∧ i ≤ n ∧ SchAt wr Z (Z + 1) [0, 1, 2] F ∧ OrdF bs i i (fun _ => -1) F ∧ Below Z w wr) (fun iv _ => n - (intOf iv).toNat)
      case atStart => exact ⟨0, ordG 3, rfl, by omega, Hs2.out, OrdF.start bs, Hb2.out⟩
      case round =>
        obtain ⟨i, F, rfl, hi, hs, ho, hb⟩ := hrel
        have Hs4 := Lib.hid hs; have Ho4 := Lib.hid ho; have Hb4 := Lib.hid hb
        clear hs ho hb Hs2 Hb2 i1
        have i0 : (0 : Int) ≤ (i : Int) := by omega
        by_cases hlt : i < n
        · have i1 : (i : Int) < (n : Int) := by omega
          obtain ⟨ga, o, x, rfl, hx, hxt, hca⟩ := (HS.out _ Hb4.out).byteAt (j := i) (by rw [Hn.out]; exact hlt)
          have hcv := clsO_val hx
          clear hx hxt
          go_wp2_with (go_at_call 14; refine (ord_push Hs4.out Ho4.out (by omega) (Hz.out _ Hb4.out)).mono ?_; rintro e w5 ⟨rfl, F', hA, ho, hk⟩; have HA5 := Lib.hid hA; have Ho5 := Lib.hid ho; have Hb5 := Lib.hid (Hb4.out.trans (hk.below (Hz.out _ Hb4.out))); clear hA hk ho)
          go_roundw
          case rel => exact ⟨i + 1, F', by go_num, by omega, HA5.out, Ho5.out, Hb5.out⟩
          case measure => simp [intOf]; omega
        · obtain rfl : i = n := by omega
          have i1 : ¬ (i : Int) < (i : Int) := by omega
          clear hi hlt i0
          go_upto_region 17 with fail
          have hx := heap_alloc_new wr (.cells #[.int .i64 (-1), .int .i64 (-1), .int .i64 (-1)] 53)
          have hb6 := Hb4.out.trans ((below_box wr (.cells #[.int .i64 (-1), .int .i64 (-1), .int .i64 (-1)] 53)).mono (Hz.out _ Hb4.out))
          have hA6 := Hs4.out.below (below_box wr (.cells #[.int .i64 (-1), .int .i64 (-1), .int .i64 (-1)] 53))
          have Hg := Lib.hid (Hz.out _ Hb4.out)
          change Code.wp _ _ _ _ (wr.alloc (.cells #[.int .i64 (-1), .int .i64 (-1), .int .i64 (-1)] 53))
          generalize wr.alloc (.cells #[.int .i64 (-1), .int .i64 (-1), .int .i64 (-1)] 53) = w6 at hx hb6 hA6 ⊢
          obtain ⟨g, hg⟩ : ∃ g, wr.heap.size = g := ⟨_, rfl⟩
          rw [hg] at hx Hg ⊢
          have Hx6 := Lib.hid hx; have Hb6 := Lib.hid hb6; have HA6 := Lib.hid hA6
          clear hx hb6 hA6 Hs4 Hb4 hg
          go_wp2
          go_loopw [7] (fun iv wr => ∃ (j : Nat) (la : Nat → Int) (F : Int → Fl), iv = .int .i64 (j : Int) ∧ j ≤ i ∧ SchAt wr Z (Z + 1) [0, 1, 2] F ∧ OrdF bs i (i - j) la F ∧ wr.heap[g]? = some (.cells (laRow la) 53 (0, 0)) ∧ Below Z w wr) (fun iv _ => i - (intOf iv).toNat)
          case atStart => exact ⟨0, fun _ => -1, F, rfl, by omega, HA6.out, Ho4.out, Hx6.out, Hb6.out⟩
          case round =>
            obtain ⟨j, la, G, rfl, hj, hs, ho, hx, hb⟩ := hrel
            have Hs7 := Lib.hid hs; have Ho7 := Lib.hid ho; have Hx7 := Lib.hid hx; have Hb7 := Lib.hid hb
            clear hs ho hx hb Ho4 Hx6 Hb6 HA6 i1
            have i0 : (0 : Int) ≤ (j : Int) := by omega
            by_cases hlt : j < i
            · have i1 : (j : Int) < (i : Int) := by omega
              obtain ⟨t, ht⟩ : ∃ t, i - j = t + 1 := ⟨i - j - 1, by omega⟩
              rw [ht] at Ho7
              have Ht := Lib.hid ht
              clear ht
              have wi := wrap_in ((j : Int) + 1) (by omega) (by omega)
              have wi2 := wrap_in (60 + (j : Int)) (by omega) (by omega)
              go_upto_region 21 with (go_at_call 13; refine (ord_pick Hs7.out Ho7.out (by unfold In64; omega) (Hz.out _ Hb7.out)).mono ?_; rintro e w8 ⟨k, x, de, rh, ph, G', hk3, hxl, hxc, hla, rfl, hA, ho, hk⟩; have HA8 := Lib.hid hA; have Ho8 := Lib.hid ho; have Hx8 := Lib.hid (hk.heap Hx7.out (by unfold TouchS; decide)); have Hb8 := Lib.hid (Hb7.out.trans (hk.below (Hz.out _ Hb7.out))); have Hk3 := Lib.hid hk3; have Hxl := Lib.hid hxl; have Hxc := Lib.hid hxc; have Hla := Lib.hid hla; clear hA ho hk hk3 hxl hxc hla)
              have hb9 := Hb8.out.trans ((below_box w8 (.cells #[.int .i64 (x : Int), .int .i64 de, .int .i64 rh] 36)).mono (Hz.out _ Hb8.out))
              have hbb := below_box w8 (.cells #[.int .i64 (x : Int), .int .i64 de, .int .i64 rh] 36)
              have hx9 := heap_alloc_new w8 (.cells #[.int .i64 (x : Int), .int .i64 de, .int .i64 rh] 36)
              have hg9 := (Array.getElem?_eq_some_iff.1 Hx8.out).1
              change Code.wp _ _ _ _ (w8.alloc (.cells #[.int .i64 (x : Int), .int .i64 de, .int .i64 rh] 36))
              generalize w8.alloc (.cells #[.int .i64 (x : Int), .int .i64 de, .int .i64 rh] 36) = w9 at hb9 hbb hx9 ⊢
              have Hb9 := Lib.hid hb9
              have HA9 := Lib.hid (HA8.out.below hbb)
              have hg9' := (hbb.block _ (Array.getElem?_eq_some_iff.1 Hx8.out).1).trans Hx8.out
              have Hx9 := Lib.hid hg9'
              obtain ⟨q, hq⟩ : ∃ q, w8.heap.size = q := ⟨_, rfl⟩
              rw [hq] at hx9 ⊢
              have ci : w9.cell? ⟨q, 0, none⟩ = some (.int .i64 (x : Int)) := row_cell hx9 0
              obtain ⟨ga, o, y, rfl, hy, hyt, hca⟩ := (HS.out _ hb9).byteAt (j := x) (by rw [Hn.out]; exact Hxl.out)
              have hcv := clsO_val hy
              rw [Hxc.out] at hcv
              have x0 : (0 : Int) ≤ (x : Int) := by omega
              have x1 : (x : Int) < (i : Int) := by have := Hxl.out; omega
              have x2 : ¬ (i : Int) ≤ (x : Int) := by omega
              have hla := Hla.out
              have hk3 := Hk3.out
              clear hb9 hbb hx9 hg9 hq hy hyt Hs7 Ho7 Hx7 Hb7 HA8 Hx8 Hb8 Hxc Hxl
              rcases three_of hk3 with rfl | rfl | rfl
              · have cl : w9.cell? ⟨g, 0, none⟩ = some (.int .i64 (la 0)) := row_cell Hx9.out 0
                have cz : w9.frozen? ⟨g, 0, none⟩ = false := row_frozen Hx9.out 0
                have KK := Lib.hid (fun (m : Nat) => order_set (k := 0) (x := x) HA9.out Hx9.out Hb9.out Hg.out m (by rfl) (Hz.out _ Hb9.out))
                have hw : (IntKind.i64.wrap (y.toNat : Int)).tmod 3 = 0 := byte_rem y hcv
                clear hcv
                go_quiet (fail)
                go_wp2
                go_roundw
                case rel => exact ⟨j + 1, laSet la 0 x, G', by go_num, by omega, (KK.out _).1, by rw [show i - (j + 1) = t by have := Ht.out; omega]; exact Ho8.out, (KK.out _).2.1, (KK.out _).2.2⟩
                case measure => simp [intOf]; omega
              · have cl : w9.cell? ⟨g, 1, none⟩ = some (.int .i64 (la 1)) := row_cell Hx9.out 1
                have cz : w9.frozen? ⟨g, 1, none⟩ = false := row_frozen Hx9.out 1
                have KK := Lib.hid (fun (m : Nat) => order_set (k := 1) (x := x) HA9.out Hx9.out Hb9.out Hg.out m (by rfl) (Hz.out _ Hb9.out))
                have hw : (IntKind.i64.wrap (y.toNat : Int)).tmod 3 = 1 := byte_rem y hcv
                clear hcv
                go_quiet (fail)
                go_wp2
                go_roundw
                case rel => exact ⟨j + 1, laSet la 1 x, G', by go_num, by omega, (KK.out _).1, by rw [show i - (j + 1) = t by have := Ht.out; omega]; exact Ho8.out, (KK.out _).2.1, (KK.out _).2.2⟩
                case measure => simp [intOf]; omega
              · have cl : w9.cell? ⟨g, 2, none⟩ = some (.int .i64 (la 2)) := row_cell Hx9.out 2
                have cz : w9.frozen? ⟨g, 2, none⟩ = false := row_frozen Hx9.out 2
                have KK := Lib.hid (fun (m : Nat) => order_set (k := 2) (x := x) HA9.out Hx9.out Hb9.out Hg.out m (by rfl) (Hz.out _ Hb9.out))
                have hw : (IntKind.i64.wrap (y.toNat : Int)).tmod 3 = 2 := byte_rem y hcv
                clear hcv
                go_quiet (fail)
                go_wp2
                go_roundw
                case rel => exact ⟨j + 1, laSet la 2 x, G', by go_num, by omega, (KK.out _).1, by rw [show i - (j + 1) = t by have := Ht.out; omega]; exact Ho8.out, (KK.out _).2.1, (KK.out _).2.2⟩
                case measure => simp [intOf]; omega
            · obtain rfl : j = i := by omega
              have i1 : ¬ (j : Int) < (j : Int) := by omega
              clear hj hlt
              rw [Nat.sub_self] at Ho7
              go_upto_region 25 with (go_at_call 13; refine (ord_done Hs7.out Ho7.out (by unfold In64; decide) (Hz.out _ Hb7.out)).mono ?_; rintro e w8 ⟨rfl, hk⟩; have Hb8 := Lib.hid (Hb7.out.trans (hk.below (Hz.out _ Hb7.out))); clear hk)
              have hb9 := Hb8.out.trans ((below_box w8 (.cells #[.int .i64 0, .int .i64 0, .int .i64 0] 36)).mono (Hz.out _ Hb8.out))
              change Code.wp _ _ _ _ (w8.alloc (.cells #[.int .i64 0, .int .i64 0, .int .i64 0] 36))
              generalize w8.alloc (.cells #[.int .i64 0, .int .i64 0, .int .i64 0] 36) = w9 at hb9 ⊢
              have Hb9 := Lib.hid hb9
              clear hb9 Hs7 Ho7 Hx7 Hb7 Hb8
              go_wp2_with (go_at_call 8; refine (awake_any w9).mono ?_; rintro e w10 ⟨rfl, hb⟩; have B10 := Lib.hid (Hb9.out.trans (hb.mono (Hz.out _ Hb9.out))); clear hb)
              go_ret
              refine ⟨rfl, ?_⟩
              rw [HZ.out]
              exact B10.out

theorem walk (A : Option Addr) (n cap : Nat) (bs : List UInt8) (w : World) (hn : bs.length = n) (hnc : n ≤ cap) (hcm : cap ≤ maxLen) (hs : Seen w A (bytesV bs)) :
    Calls Try.prog 7 #[.slice A n cap] w fun e w' => e = .returned (.bool true) ∧ Below w.heap.size w w' := by
  by_cases hl : 60 < n
  · have hli : (60 : Int) < (n : Int) := by omega
    clear hn hs
    go_enter Try.func7, Try.ntmps7
    go_wp2_with (go_at_call 8; refine (awake_any w).mono ?_; rintro e w1 ⟨rfl, hb⟩; have Hb := Lib.hid hb; clear hb)
    go_ret
    exact ⟨rfl, Hb.out⟩
  · exact walkIn A n cap bs w hn (by omega) hs

/-! ### THE ROW -/
theorem own : ownKnob Try.prog.godebug = none := by kernel_rfl

set_option maxRecDepth 100000 in
theorem lifted (os : Os) (started : os.Started) (H : Type) (enc : TypeId × Value → H) :
    ReturnsInHanded {} Try.checked os 7 .any (Rows.schedOrderSpec.pre6 enc Try.prog Try.f7 Rows.schedOrderRow.domain false) (Rows.schedOrderSpec.post enc Try.prog Try.f7 false true false false) := by
  refine returnsInHanded_of_change (C := Try.checked) own started (by kernel_rfl) Try.func7
    (ChangeSpec.witness6 (enc := enc) (C := Try.checked) false ⟨#[], #[.slice none 0 0], []⟩ 8 (by kernel_rfl) (by kernel_rfl) (by kernel_rfl) (by kernel_rfl)) ?_
  intro W base args ds gs before hval0 hW hcnd _
  have hval : ∀ (j : Nat) t v, Try.f7.params[j]? = some t → args[j]? = some v → Value.okWide Try.prog W .any base t v := hval0
  have hW' := hW
  obtain ⟨p, q, hA0, hV, rfl, hfz, hnd⟩ := hW
  have hA : DataW.TrodAll enc Try.prog W 0 (fun _ => true) true Try.f7.params.toList args.toList ds p := hA0
  rw [Try.params7] at hA hval
  obtain ⟨v0, vs0, d0, ds0, p0, q0, hargs, rfl, rfl, h0, r0⟩ := trodAll_cons hA
  obtain ⟨rfl, rfl, rfl⟩ := trodAll_nil r0
  obtain rfl : args = #[v0] := by cases args; simp_all
  obtain ⟨rfl, rfl⟩ := trodVars_none hV
  obtain ⟨A0, n0, c0, bs0, rfl, hn0, hnc0, hcm0, hsee0⟩ := open_bytes Try.underlying23 Try.underlying5 (by kernel_rfl) (hval 0 23 v0 rfl rfl) h0
  refine (walk A0 n0 c0 bs0 W hn0 hnc0 hcm0 hsee0).mono fun e W' ⟨he, hg⟩ => ?_
  subst he
  exact ⟨_, rfl, law_post hW' rfl (by kernel_rfl) (by kernel_rfl) (by kernel_rfl) Try.underlying4 rfl rfl rfl hg⟩

theorem over : Rows.schedOrderRow.holds Try.pinned (OpenSpec.ofChange Rows.schedOrderSpec) :=
  OpenClaim.holds_of_wide 7 Try.f7 rfl rfl rfl rfl rfl rfl rfl ⟨rfl, rfl, rfl, rfl, rfl⟩ rfl rfl rfl rfl rfl (by kernel_rfl) Try.func7 (by kernel_rfl)
    (of_decide_eq_true (by kernel_rfl)) (by unfold Func.isWrapper; first | (rw [if_pos (by decide +kernel)]; kernel_rfl) | (rw [if_neg (by decide +kernel)]; exact ⟨rfl, rfl⟩))
    (fun os started H enc _ => lifted os started H enc)

theorem proved : Rows.SchedOrderSaid :=
  over
#print axioms proved

end Go.Proofs.Ytbfjakchgmdldaa.SchedOrder
