/-
  Contract of dotterellaw12's awake: it holds, and turns nothing that was there. No condition.
-/
import Derived.Test.YtbfjakchgmdldaaSchPick
import Derived.Test.YtbfjakchgmdldaaSchGet
namespace Go.Proofs.Ytbfjakchgmdldaa
open Go.ChangeShapes Go.WideShapes Go.ChangeAt Go.RowKit
set_option linter.unusedVariables false

def awP1 : Pol := ⟨1000, 1, 0, 0⟩
def awP0 : Pol := ⟨0, 9, 0, 0⟩
def awF1 : Int → Fl := updF (fun _ => newFl) 1 (setFl newFl 0 awP1)
def awF2 : Int → Fl := updF awF1 0 (setFl newFl 0 awP0)
def awI0 : Itm := ⟨5, 0, 0⟩
def awI1 : Itm := ⟨6, 0, 0⟩
def awF3 : Int → Fl := updF awF2 0 (wokeFl (awF2 0) 3 0 awI0)
def awF4 : Int → Fl := updF awF3 1 (wokeFl (awF3 1) 3 0 awI1)
def awF5 : Int → Fl := updF awF4 1 (takenFl (awF4 1) (atF 3) 1 awI1 [])
theorem aw1 (Z s : Nat) (W : World) (H : SchAt W Z s [] (fun _ => newFl)) (hB : Z ≤ W.heap.size) :
    Calls Try.prog 11 #[.pointer (some ⟨s, 0, none⟩), .int .i64 1, .int .i64 0, .agg #[.int .i64 1000, .int .i64 1, .int .i64 0, .int .i64 0]] W (fun e w' => e = .returned (.int .i64 0) ∧ SchAt w' Z s [1] awF1 ∧ KeptS Z W w') :=
  SSet_any Z s [] (fun _ => newFl) 1 0 awP1 W H (by unfold In64; decide) (by unfold In64; decide) (by unfold InP In64 awP1; decide) (by decide) hB
theorem aw2 (Z s : Nat) (W : World) (H : SchAt W Z s [1] awF1) (hB : Z ≤ W.heap.size) :
    Calls Try.prog 11 #[.pointer (some ⟨s, 0, none⟩), .int .i64 0, .int .i64 0, .agg #[.int .i64 0, .int .i64 9, .int .i64 0, .int .i64 0]] W (fun e w' => e = .returned (.int .i64 0) ∧ SchAt w' Z s [0, 1] awF2 ∧ KeptS Z W w') :=
  SSet_any Z s [1] awF1 0 0 awP0 W H (by unfold In64; decide) (by unfold In64; decide) (by unfold InP In64 awP0; decide) (by decide) hB
theorem aw3 (Z s : Nat) (W : World) (H : SchAt W Z s [0, 1] awF2) (hB : Z ≤ W.heap.size) :
    Calls Try.prog 14 #[.pointer (some ⟨s, 0, none⟩), .int .i64 0, .agg #[.int .i64 5, .int .i64 0, .int .i64 0], .int .i64 3] W (fun e w' => e = .returned (.int .i64 0) ∧ SchAt w' Z s [0, 1] awF3 ∧ KeptS Z W w') := by
  refine (SPush_any Z s [0, 1] awF2 0 3 awI0 W H (by unfold In64; decide) (by unfold InT In64 awI0; decide) (by unfold In64; decide) (by decide) hB).mono ?_
  rintro e w' ⟨F', rfl, h1, h2, h3⟩
  have e0 : pushE [0, 1] awF2 0 = 0 := by decide
  rw [e0] at *
  refine ⟨rfl, ?_, h2⟩
  rcases h3 with ⟨_, h, _⟩ | ⟨_, _, l, hl, rfl⟩ | ⟨h, _⟩
  · exact absurd h (by decide)
  · rcases hl with ⟨_, rfl⟩ | ⟨j, hj, hu, _⟩
    · exact h1
    · exfalso
      revert hu
      rcases List.mem_cons.1 hj with rfl | hj
      · decide
      · rcases List.mem_cons.1 hj with rfl | hj
        · decide
        · cases hj
  · exact absurd rfl h
theorem aw4 (Z s : Nat) (W : World) (H : SchAt W Z s [0, 1] awF3) (hB : Z ≤ W.heap.size) :
    Calls Try.prog 14 #[.pointer (some ⟨s, 0, none⟩), .int .i64 1, .agg #[.int .i64 6, .int .i64 0, .int .i64 0], .int .i64 3] W (fun e w' => e = .returned (.int .i64 0) ∧ SchAt w' Z s [0, 1] awF4 ∧ KeptS Z W w') := by
  refine (SPush_any Z s [0, 1] awF3 1 3 awI1 W H (by unfold In64; decide) (by unfold InT In64 awI1; decide) (by unfold In64; decide) (by decide) hB).mono ?_
  rintro e w' ⟨F', rfl, h1, h2, h3⟩
  have e0 : pushE [0, 1] awF3 1 = 0 := by decide
  rw [e0] at *
  refine ⟨rfl, ?_, h2⟩
  rcases h3 with ⟨_, h, _⟩ | ⟨_, _, l, hl, rfl⟩ | ⟨h, _⟩
  · exact absurd h (by decide)
  · rcases hl with ⟨h, _⟩ | ⟨j, hj, hu, rfl, _⟩
    · exact absurd (h 0 (by decide)) (by decide)
    · rcases List.mem_cons.1 hj with rfl | hj
      · exact h1
      · rcases List.mem_cons.1 hj with rfl | hj
        · exact absurd hu (by decide)
        · cases hj
  · exact absurd rfl h
theorem two_of {P : Int → Prop} {j : Int} (hj : j ∈ [(0 : Int), 1]) : (j = 0) ∨ (j = 1) := by
  rcases List.mem_cons.1 hj with rfl | hj
  · exact .inl rfl
  · rcases List.mem_cons.1 hj with rfl | hj
    · exact .inr rfl
    · cases hj
def AwPick (Z s : Nat) (F : Int → Fl) (k ph : Int) (i : Itm) (W : World) (e : Ending) (w' : World) : Prop :=
  e = .returned (.tuple #[.int .i64 k, .agg #[.int .i64 i.na, .int .i64 i.de, .int .i64 i.rh], .int .i64 ph, .bool true]) ∧ SchAt w' Z s [0, 1] F ∧ KeptS Z W w' ∧ ∀ (j : Nat) (cs : Array Value), W.heap[j]? = some (.cells cs 36 (0, 0)) → w'.heap[j]? = some (.cells cs 36 (0, 0))
theorem aw5 (Z s : Nat) (W : World) (H : SchAt W Z s [0, 1] awF4) (hB : Z ≤ W.heap.size) :
    Calls Try.prog 13 #[.pointer (some ⟨s, 0, none⟩), .int .i64 3] W (AwPick Z s awF5 1 1 awI1 W) := by
  refine (Pick_any Z s [0, 1] awF4 3 W H (by unfold In64; decide) (by decide) hB).mono ?_
  rintro e w' ⟨k, i, ph, ok, F', rfl, h1, h2, h3, h4⟩
  have hdue : Due [0, 1] awF4 (atF 3) 1 := ⟨by decide, by decide, by decide⟩
  have hd0 : ¬ Due [0, 1] awF4 (atF 3) 0 := fun h => absurd h.2.2 (by decide)
  rcases h4 with ⟨rfl, r, hk, hq, hn, rfl⟩ | ⟨_, _, _, _, _, hn⟩
  · have hkp : k = 1 ∧ ph = 1 := by
      rcases hn with ⟨_, h, hf⟩ | ⟨_, _, h, _⟩ | ⟨h, _⟩
      · refine ⟨?_, h⟩
        rcases two_of (P := fun _ => True) hk with rfl | h
        · exact absurd hf.1 hd0
        · exact h
      · exact absurd hdue (h 1)
      · cases h
    obtain ⟨rfl, rfl⟩ := hkp
    have hq2 : (awF4 1).q = [awI1] := by decide
    rw [hq2] at hq
    injection hq with hi hr
    subst hi; subst hr
    exact ⟨rfl, h1, h2, h3⟩
  · rcases hn with ⟨h, _⟩ | ⟨h, _⟩ | ⟨_, _, _, h⟩
    · cases h
    · cases h
    · exact absurd (due_free hdue) (h 1)
theorem aw6 (Z s : Nat) (W : World) (H : SchAt W Z s [0, 1] awF5) (hB : Z ≤ W.heap.size) :
    Calls Try.prog 13 #[.pointer (some ⟨s, 0, none⟩), .int .i64 3] W (fun e w' => ∃ F, AwPick Z s F 0 2 awI0 W e w') := by
  refine (Pick_any Z s [0, 1] awF5 3 W H (by unfold In64; decide) (by decide) hB).mono ?_
  rintro e w' ⟨k, i, ph, ok, F', rfl, h1, h2, h3, h4⟩
  have hfree : Free [0, 1] awF5 (atF 3) 0 := ⟨by decide, by decide, by decide⟩
  have hnd : ∀ j, ¬ Due [0, 1] awF5 (atF 3) j := fun j h => by
    rcases two_of (P := fun _ => True) h.1 with rfl | rfl
    · exact absurd h.2.2 (by decide)
    · exact absurd h.2.1 (by decide)
  rcases h4 with ⟨rfl, r, hk, hq, hn, rfl⟩ | ⟨_, _, _, _, _, hn⟩
  · have hkp : k = 0 ∧ ph = 2 := by
      rcases hn with ⟨_, _, hf⟩ | ⟨_, h, _, hf⟩ | ⟨h, _⟩
      · exact absurd hf.1 (hnd k)
      · refine ⟨?_, h⟩
        rcases two_of (P := fun _ => True) hk with h | rfl
        · exact h
        · exact absurd hf.1.2.1 (by decide)
      · cases h
    obtain ⟨rfl, rfl⟩ := hkp
    have hq2 : (awF5 0).q = [awI0] := by decide
    rw [hq2] at hq
    injection hq with hi hr
    subst hi; subst hr
    exact ⟨_, rfl, h1, h2, h3⟩
  · rcases hn with ⟨h, _⟩ | ⟨h, _⟩ | ⟨_, _, _, h⟩
    · cases h
    · cases h
    · exact absurd hfree (h 0)
set_option maxRecDepth 100000 in
set_option maxHeartbeats 2000000 in
theorem awake_any (w : World) : Calls Try.prog 8 #[] w fun e w' => e = .returned (.bool true) ∧ Below w.heap.size w w' := by
  obtain ⟨Z, hZ⟩ : ∃ Z, w.heap.size = Z := ⟨_, rfl⟩
  have KN := Lib.hid (New_any w)
  unfold NewRet at KN
  rw [hZ] at KN
  have HZ := Lib.hid hZ
  clear hZ
  go_enter Try.func8, Try.ntmps8
  go_upto_region 4 with (first
    | (go_at_call 14; refine (aw4 Z (Z + 1) _ HA4.out (by have := Hb4.out.size; have := HZ.out; omega)).mono ?_; rintro e w5 ⟨rfl, hA, hk⟩; have HA5 := Lib.hid hA; have Hb5 := Lib.hid (Hb4.out.trans (hk.below (by have := Hb4.out.size; have := HZ.out; omega))); clear hA hk)
    | (go_at_call 14; refine (aw3 Z (Z + 1) _ HA3.out (by have := Hb3.out.size; have := HZ.out; omega)).mono ?_; rintro e w4 ⟨rfl, hA, hk⟩; have HA4 := Lib.hid hA; have Hb4 := Lib.hid (Hb3.out.trans (hk.below (by have := Hb3.out.size; have := HZ.out; omega))); clear hA hk)
    | (go_at_call 11; refine (aw2 Z (Z + 1) _ HA2.out (by have := Hb2.out.size; have := HZ.out; omega)).mono ?_; rintro e w3 ⟨rfl, hA, hk⟩; have HA3 := Lib.hid hA; have Hb3 := Lib.hid (Hb2.out.trans (hk.below (by have := Hb2.out.size; have := HZ.out; omega))); clear hA hk)
    | (go_at_call 11; refine (aw1 Z (Z + 1) _ HA.out (by have := Hb1.out.size; have := HZ.out; omega)).mono ?_; rintro e w2 ⟨rfl, hA, hk⟩; have HA2 := Lib.hid hA; have Hb2 := Lib.hid (Hb1.out.trans (hk.below (by have := Hb1.out.size; have := HZ.out; omega))); clear hA hk)
    | (go_at_call 9; refine KN.out.mono ?_; rintro e w1 ⟨rfl, hA, hb1⟩; have HA := Lib.hid hA; have Hb1 := Lib.hid hb1; clear hA hb1))
  clear HA HA2 HA3 HA4 Hb1 Hb2 Hb3 Hb4 KN
  go_upto_region 5 with (go_at_call 13; refine (aw5 Z (Z + 1) _ HA5.out (by have := Hb5.out.size; have := HZ.out; omega)).mono ?_; rintro e w6 ⟨rfl, hA, hk, hi⟩; have HA6 := Lib.hid hA; have Hb6 := Lib.hid (Hb5.out.trans (hk.below (by have := Hb5.out.size; have := HZ.out; omega))); clear hA hk hi)
  change Code.wp _ _ _ _ (w6.alloc (.cells #[.int .i64 6, .int .i64 0, .int .i64 0] 36))
  obtain ⟨w7, hw7, hb7, hx7⟩ := itm_box w6 awI1
  change w6.alloc (.cells #[.int .i64 6, .int .i64 0, .int .i64 0] 36) = w7 at hw7
  rw [hw7]
  have HA7 := Lib.hid (HA6.out.below hb7)
  have Hb7 := Lib.hid (Hb6.out.trans (hb7.mono (by have := Hb6.out.size; have := HZ.out; omega)))
  have Hx7 := Lib.hid hx7
  clear hw7 hb7 hx7
  go_upto_region 6 with (go_at_call 13; refine (aw6 Z (Z + 1) _ HA7.out (by have := Hb7.out.size; have := HZ.out; omega)).mono ?_; rintro e w8 ⟨F, rfl, hA, hk, hi⟩; have Hb8 := Lib.hid (Hb7.out.trans (hk.below (by have := Hb7.out.size; have := HZ.out; omega))); have Hx8 := Lib.hid (hi _ _ Hx7.out); clear hA hk hi)
  change Code.wp _ _ _ _ (w8.alloc (.cells #[.int .i64 5, .int .i64 0, .int .i64 0] 36))
  have hx9 := (below_box w8 (.cells #[.int .i64 5, .int .i64 0, .int .i64 0] 36)).block w6.heap.size (Array.getElem?_eq_some_iff.1 Hx8.out).1
  rw [Hx8.out] at hx9
  have k1 : (w8.alloc (.cells #[.int .i64 5, .int .i64 0, .int .i64 0] 36)).cell? ⟨w6.heap.size, 0, none⟩ = some (.int .i64 6) := row_cell hx9 0
  have Hb9 := Lib.hid (Hb8.out.trans ((below_box w8 (.cells #[.int .i64 5, .int .i64 0, .int .i64 0] 36)).mono (by have := Hb8.out.size; have := HZ.out; omega)))
  generalize w8.alloc (.cells #[.int .i64 5, .int .i64 0, .int .i64 0] 36) = w9 at k1 Hb9 ⊢
  clear hx9
  go_wp2_with fail
  go_ret
  refine ⟨rfl, ?_⟩
  rw [HZ.out]
  exact Hb9.out
end Go.Proofs.Ytbfjakchgmdldaa
