/-
  Contracts of dotterellaw05.awake and of the document's SameAll.
-/
import Derived.Test.YtcplclnlcfhoeaaJouOpen
import Derived.Test.YtcplclnlcfhoeaaJouAdd
import Derived.Test.YtcplclnlcfhoeaaSame
import Derived.StillTailTactics
namespace Go.Proofs.Ytcplclnlcfhoeaa
open Go.ChangeShapes Go.WideShapes Go.ChangeAt Go.RowKit
set_option linter.unusedVariables false

theorem numB_one {n : Nat} (h : n < 128) : (numB n).length = 1 := by rw [numB_lt h]; rfl
theorem awake_many : manyOf 1 0 [1, 2, 3] = 1 := by
  unfold manyOf
  rw [rest_length, fields_length, numB_one (by omega), numB_one (by omega), numB_one (by simp)]
  rfl
theorem awake_add : ∃ J', (Jn.first 4 1).add [1, 2, 3] = (0, J') ∧ J'.next = 1 ∧ J'.fin = 4 := by
  obtain ⟨J', h1, h2, h3⟩ := (Run.new (n := 4) (gen := 1) (by omega) (by omega)).add (t := [1, 2, 3]) (formE_mk (by omega) (by simp) (by rw [List.length_nil, awake_many]; omega)) (by rw [List.length_nil, awake_many]; show 1 ≤ 4 - 0; omega) (by simp)
  refine ⟨J', h1, ?_, h2.fin⟩
  rw [h3, List.length_nil, awake_many]
  rfl

set_option maxRecDepth 100000 in
set_option maxHeartbeats 2000000 in
theorem awake_any (w : World) : Calls Try.prog 6 #[] w fun e w' => e = .returned (.bool true) ∧ Below w.heap.size w w' := by
  obtain ⟨B, hB⟩ : ∃ B, w.heap.size = B := ⟨_, rfl⟩
  have HB := Lib.hid hB; clear hB
  obtain ⟨J', hadd, hnx, hfin⟩ := awake_add
  have Hadd := Lib.hid hadd; have Hnx := Lib.hid (And.intro hnx hfin)
  clear hadd hnx hfin
  go_enter Try.func6, Try.ntmps6
  go_wp2_with fail
  refine (New_any 4 w (by omega) (by omega)).mono ?_
  rw [HB.out]
  rintro e w1 ⟨g, s, rfl, hd, hb⟩
  have Hd1 := Lib.hid hd; have Hb1 := Lib.hid hb
  clear hd hb
  have hB1 : B ≤ w1.heap.size := by have := Hb1.out.size; have := HB.out; omega
  go_wp2_with fail
  refine (Open_new B g s 4 1 w1 Hd1.out (by omega)).mono ?_
  rintro e w2 ⟨jg, A, c, rfl, hj, hb⟩
  have Hj2 := Lib.hid hj
  have Hb2 := Lib.hid (Hb1.out.trans (hb.mono hB1))
  have hB2 : B ≤ w2.heap.size := by have := hb.size; omega
  clear hj hb
  go_wp2_with fail
  have hal := (Below.refl w2.heap.size w2).alloc (Nat.le_refl _) (.cells #[.int .u8 1, .int .u8 2, .int .u8 3] 5)
  have Hal := Lib.hid hal
  have Hj3 := Lib.hid (Hj2.out.below hal)
  refine (Add_any B g s none jg none (Jn.first 4 1) (some ⟨w2.heap.size, 0, none⟩) 3 3 [1, 2, 3] _ Hj3.out (by show 0 ≤ _; omega) (by show 0 < _; omega) (by show 0 < _; omega) (by have := hal.size; omega) rfl (Seen.of_cells (heap_alloc_new w2 _))).mono ?_
  rw [Hadd.out]
  rintro e w3 ⟨rfl, hmv⟩
  have Hb3 := Lib.hid ((Hb2.out.trans (Hal.out.mono hB2)).trans (hmv.below Hj3.out (by have := Hal.out.size; omega)))
  obtain ⟨r3, q3, hj3, _, _, _⟩ := hmv
  have Hj4 := Lib.hid hj3
  clear hj3 hal
  have hroom : ((J'.fin - J'.next : Nat) : Int) = 3 := by rw [Hnx.out.1, Hnx.out.2]; rfl
  go_wp2_with (first
    | (go_at_call 14; refine (Scan_nil 0 0 0 w3).mono ?_; rintro e w4 ⟨rfl, rfl⟩)
    | (go_at_call 16; refine (Room_any B g s r3 jg q3 J' w3 Hj4.out).mono ?_; rw [hroom]; rintro e w4 ⟨rfl, hb4⟩; have Hb4 := Lib.hid (Hb3.out.trans (hb4.mono (by have := Hb3.out.size; have := HB.out; omega))); clear hb4))
  go_ret
  rw [HB.out]
  exact ⟨rfl, Hb4.out⟩
theorem Lists.at_ {w : World} {ls : List (Option Addr × Nat × Nat)} {ts : List (List UInt8)} (h : Lists w ls ts) {k : Nat} (hk : k < ts.length) :
    ∃ A n c t, ls[k]? = some (A, n, c) ∧ ts[k]? = some t ∧ t.length = n ∧ n ≤ 1000000 ∧ Seen w A (bytesV t) := by
  obtain ⟨A, n, c, e⟩ : ∃ A n c, ls[k]? = some (A, n, c) := ⟨_, _, _, List.getElem?_eq_getElem (by rw [h.1]; exact hk)⟩
  obtain ⟨t, h1, h2, h3, h4⟩ := h.2 k A n c e
  exact ⟨A, n, c, t, e, h1, h2, h3, h4⟩
/-- a list of lists, opened at k -/
theorem seen_list {w : World} {A : Option Addr} {ls : List (Option Addr × Nat × Nat)} (h : Seen w A (listsV ls)) {k : Nat} {x : Option Addr × Nat × Nat} (hk : ls[k]? = some x) : ∃ g o, A = some ⟨g, o, none⟩ ∧ w.cell? ⟨g, o + k, none⟩ = some (.slice x.1 x.2.1 x.2.2) := by
  have hl : k < (listsV ls).length := by rw [listsV, List.length_map]; exact (List.getElem?_eq_some_iff.1 hk).1
  obtain ⟨g, o, hA, hc⟩ := h.at_ hl
  refine ⟨g, o, hA, ?_⟩
  rw [hc]
  have := List.getElem?_eq_getElem hl
  rw [← this, listsV, List.getElem?_map, hk]
  rfl

set_option maxRecDepth 100000 in
theorem SameAll_same (A C : Option Addr) (n c c2 : Nat) (ls ms : List (Option Addr × Nat × Nat)) (ts : List (List UInt8)) (w : World) (hn : ts.length = n) (hn6 : n ≤ 100000) (h1 : Seen w A (listsV ls)) (h2 : Lists w ls ts) (h3 : Seen w C (listsV ms)) (h4 : Lists w ms ts) :
    Calls Try.prog 15 #[.slice A n c, .slice C n c2] w fun e w' => e = .returned (.bool true) ∧ Below w.heap.size w w' := by
  have H1 := Lib.hid h1; have H2 := Lib.hid h2; have H3 := Lib.hid h3; have H4 := Lib.hid h4
  have Hn := Lib.hid hn
  clear h1 h2 h3 h4 hn
  go_enter Try.func15, Try.ntmps15
  go_wp2
  go_loopw [5] (fun iv wr => ∃ k : Nat, k ≤ n ∧ iv = .int .i64 (k : Int) ∧ Below w.heap.size w wr) (fun iv _ => n - (intOf iv).toNat)
  case atStart => exact ⟨0, by omega, rfl, Below.refl _ _⟩
  case round =>
    obtain ⟨k, hkn, rfl, hb⟩ := hrel
    have Hb := Lib.hid hb; clear hb
    by_cases hk : k < n
    · obtain ⟨A1, n1, c1, t, e1, e2, e3, e4, e5⟩ := H2.out.at_ (k := k) (by rw [Hn.out]; exact hk)
      obtain ⟨A2, n2, c2', t2, f1, f2, f3, f4, f5⟩ := H4.out.at_ (k := k) (by rw [Hn.out]; exact hk)
      rw [e2] at f2
      injection f2 with f2
      subst f2
      obtain ⟨ga, oa, rfl, ca⟩ := seen_list (H1.out.below Hb.out) e1
      obtain ⟨gc, oc, rfl, cc⟩ := seen_list (H3.out.below Hb.out) f1
      have hs := Same_any A1 A2 n1 n2 c1 c2' t t wr.drew e3 f3 ((e5.below Hb.out).below (Below.refl _ _).drew) ((f5.below Hb.out).below (Below.refl _ _).drew) (by omega)
      rw [decide_eq_true rfl] at hs
      have Hs := Lib.hid hs
      have k0 : (0 : Int) ≤ (k : Int) := by omega
      have k1 : (k : Int) < (n : Int) := by omega
      clear hs e1 e2 e3 e4 e5 f1 f3 f4 f5
      go_wp2
      go_still_tail 8, (by kernel_rfl)
      change wpList _ _ _ _ _ wr.drew
      go_wp2_with (go_at_call 9; refine Hs.out.mono ?_; rintro e w1 ⟨rfl, hb1⟩; have Hb1 := Lib.hid (Hb.out.trans ((Below.refl wr.heap.size wr).drew.trans hb1 |>.mono Hb.out.size)); clear hb1)
      go_roundw
      case rel => exact ⟨k + 1, by omega, by go_num, Hb1.out⟩
      case measure => simp [intOf]; omega
    · go_wp2
      go_ret
      exact ⟨rfl, Hb.out⟩
end Go.Proofs.Ytcplclnlcfhoeaa
