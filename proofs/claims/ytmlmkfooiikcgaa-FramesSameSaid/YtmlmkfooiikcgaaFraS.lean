/-
  Contracts of frames.Same, of dotterelref07's Same, and of what they call: slices.Equal, slices.EqualFunc with bytes.Equal, dotterelref01.SameInts.
-/
import Derived.Test.YtmlmkfooiikcgaaFraW
import Derived.Test.YtmlmkfooiikcgaaBytesEq
import Derived.StillTailTactics
namespace Go.Proofs.Ytmlmkfooiikcgaa
open Go.ChangeShapes Go.WideShapes Go.ChangeAt Go.RowKit
set_option linter.unusedVariables false

theorem take_more_of {α : Type} {xs : List α} {k : Nat} {x : α} (h : xs[k]? = some x) : xs.take (k + 1) = xs.take k ++ [x] := by
  obtain ⟨hk, rfl⟩ := List.getElem?_eq_some_iff.1 h
  exact List.take_succ_eq_append_getElem hk
theorem differ_of {α : Type} {xs ys : List α} {k : Nat} {x y : α} (h1 : xs[k]? = some x) (h2 : ys[k]? = some y) (h : x ≠ y) : xs ≠ ys := fun e => by
  rw [e, h2] at h1
  injection h1 with h1
  exact h h1.symm
theorem alike_of {α : Type} {xs ys : List α} {k : Nat} (h : xs.take k = ys.take k) (h1 : xs.length = k) (h2 : ys.length = k) : xs = ys := by
  rw [List.take_of_length_le (by omega), List.take_of_length_le (by omega)] at h
  exact h

set_option maxRecDepth 100000 in
theorem SameInts_any (A C : Option Addr) (n m c d : Nat) (xs ys : List Int) (w : World) (hn : xs.length = n) (hm : ys.length = m) (ha : Seen w A (numsV xs)) (hb : Seen w C (numsV ys)) (hl : n ≤ maxLen) :
    Calls Try.prog 33 #[.slice A n c, .slice C m d] w fun e w' => e = .returned (.bool (decide (xs = ys))) ∧ Below w.heap.size w w' := by
  have Ha := Lib.hid ha; clear ha
  have Hb := Lib.hid hb; clear hb
  unfold maxLen at hl
  by_cases hnm : n = m
  · subst hnm
    have Hn := Lib.hid hn; clear hn
    have Hm := Lib.hid hm; clear hm
    go_enter Try.func33, Try.ntmps33
    go_wp2
    go_loopw [5] (fun i wr => ∃ k : Nat, k ≤ n ∧ i = .int .i64 k ∧ Below w.heap.size w wr ∧ xs.take k = ys.take k) (fun i _ => n - (intOf i).toNat)
    case atStart => exact ⟨0, by omega, rfl, Below.refl _ _, rfl⟩
    case round =>
      obtain ⟨k, hk, rfl, hbw, htk⟩ := hrel
      have Hbw := Lib.hid hbw; clear hbw
      have Htk := Lib.hid htk; clear htk
      by_cases hlt : k < n
      · obtain ⟨g, o, x, rfl, hx, hc⟩ := (Ha.out.below Hbw.out).num (j := k) (by have := Hn.out; omega)
        obtain ⟨g2, o2, y, rfl, hy, hc2⟩ := (Hb.out.below Hbw.out).num (j := k) (by have := Hm.out; omega)
        have Hx := Lib.hid hx; clear hx
        have Hy := Lib.hid hy; clear hy
        have b0 : (0 : Int) ≤ (k : Int) := by omega
        have b1 : (k : Int) < (n : Int) := by omega
        by_cases he : x = y
        · have hq : (x != y) = false := by rw [he]; simp
          have He := Lib.hid he; clear he
          go_wp2
          go_quiet (fail)
          go_wp2
          go_roundw
          case rel => exact ⟨k + 1, by omega, by go_num, below_drewN Hbw.out _, by rw [take_more_of Hx.out, take_more_of Hy.out, Htk.out, He.out]⟩
          case measure => simp [intOf]; omega
        · have hq : (x != y) = true := by simpa using he
          have He := Lib.hid he; clear he
          go_wp2
          go_quiet (fail)
          go_wp2
          go_ret
          exact ⟨bool_ret (by rw [decide_eq_false (differ_of Hx.out Hy.out He.out)]), below_drewN Hbw.out _⟩
      · obtain rfl : k = n := by omega
        go_wp2
        go_ret
        exact ⟨bool_ret (by rw [decide_eq_true (alike_of Htk.out Hn.out Hm.out)]), Hbw.out⟩
  · go_enter Try.func33, Try.ntmps33
    go_wp2
    go_ret
    exact ⟨bool_ret (by rw [decide_eq_false]; intro e; rw [e] at hn; omega), Below.refl _ _⟩

set_option maxRecDepth 100000 in
theorem SlEqual_any (A C : Option Addr) (n m c d : Nat) (xs ys : List Int) (w : World) (hn : xs.length = n) (hm : ys.length = m) (ha : Seen w A (numsV xs)) (hb : Seen w C (numsV ys)) (hl : n ≤ maxLen) :
    Calls Try.prog 37 #[.slice A n c, .slice C m d] w fun e w' => e = .returned (.bool (decide (xs = ys))) ∧ Below w.heap.size w w' := by
  have Ha := Lib.hid ha; clear ha
  have Hb := Lib.hid hb; clear hb
  unfold maxLen at hl
  by_cases hnm : n = m
  · subst hnm
    have Hn := Lib.hid hn; clear hn
    have Hm := Lib.hid hm; clear hm
    go_enter Try.func37, Try.ntmps37
    go_wp2
    go_loopw [13] (fun i wr => ∃ k : Nat, k ≤ n ∧ i = .int .i64 k ∧ Below w.heap.size w wr ∧ xs.take k = ys.take k) (fun i _ => n - (intOf i).toNat)
    case atStart => exact ⟨0, by omega, rfl, Below.refl _ _, rfl⟩
    case round =>
      obtain ⟨k, hk, rfl, hbw, htk⟩ := hrel
      have Hbw := Lib.hid hbw; clear hbw
      have Htk := Lib.hid htk; clear htk
      by_cases hlt : k < n
      · obtain ⟨g, o, x, rfl, hx, hc⟩ := (Ha.out.below Hbw.out).num (j := k) (by have := Hn.out; omega)
        obtain ⟨g2, o2, y, rfl, hy, hc2⟩ := (Hb.out.below Hbw.out).num (j := k) (by have := Hm.out; omega)
        have Hx := Lib.hid hx; clear hx
        have Hy := Lib.hid hy; clear hy
        have b0 : (0 : Int) ≤ (k : Int) := by omega
        have b1 : (k : Int) < (n : Int) := by omega
        by_cases he : x = y
        · have hq : (x != y) = false := by rw [he]; simp
          have He := Lib.hid he; clear he
          go_wp2
          go_quiet (fail)
          go_wp2
          go_roundw
          case rel => exact ⟨k + 1, by omega, by go_num, below_drewN Hbw.out _, by rw [take_more_of Hx.out, take_more_of Hy.out, Htk.out, He.out]⟩
          case measure => simp [intOf]; omega
        · have hq : (x != y) = true := by simpa using he
          have He := Lib.hid he; clear he
          go_wp2
          go_quiet (fail)
          go_wp2
          go_ret
          exact ⟨bool_ret (by rw [decide_eq_false (differ_of Hx.out Hy.out He.out)]), below_drewN Hbw.out _⟩
      · obtain rfl : k = n := by omega
        go_wp2
        go_ret
        exact ⟨bool_ret (by rw [decide_eq_true (alike_of Htk.out Hn.out Hm.out)]), Hbw.out⟩
  · go_enter Try.func37, Try.ntmps37
    go_wp2
    go_ret
    exact ⟨bool_ret (by rw [decide_eq_false]; intro e; rw [e] at hn; omega), Below.refl _ _⟩

set_option maxRecDepth 100000 in
theorem SlEqualFunc_any (A C : Option Addr) (n m c d : Nat) (ps qs : List (Option Addr × Nat × Nat)) (xs ys : List (List UInt8)) (w : World) (hn : xs.length = n) (hm : ys.length = m) (ha : Seen w A (listsV ps)) (ha2 : ArgLists w ps xs) (hb : Seen w C (listsV qs)) (hb2 : ArgLists w qs ys) (hl : n ≤ maxLen) :
    Calls Try.prog 39 #[.slice A n c, .slice C m d, .func (.func 38) #[] #[]] w fun e w' => e = .returned (.bool (decide (xs = ys))) ∧ Below w.heap.size w w' := by
  have Ha := Lib.hid ha; clear ha
  have Hb := Lib.hid hb; clear hb
  have Ha2 := Lib.hid ha2; clear ha2
  have Hb2 := Lib.hid hb2; clear hb2
  unfold maxLen at hl
  by_cases hnm : n = m
  · subst hnm
    have Hn := Lib.hid hn; clear hn
    have Hm := Lib.hid hm; clear hm
    go_enter Try.func39, Try.ntmps39
    go_wp2
    go_loopw [17] (fun i wr => ∃ k : Nat, k ≤ n ∧ i = .int .i64 k ∧ Below w.heap.size w wr ∧ xs.take k = ys.take k) (fun i _ => n - (intOf i).toNat)
    case atStart => exact ⟨0, by omega, rfl, Below.refl _ _, rfl⟩
    case round =>
      obtain ⟨k, hk, rfl, hbw, htk⟩ := hrel
      have Hbw := Lib.hid hbw; clear hbw
      have Htk := Lib.hid htk; clear htk
      by_cases hlt : k < n
      · obtain ⟨g, o, P, m1, e1, x, rfl, hx, hl1, hs1, hc⟩ := lists_at (Ha.out.below Hbw.out) (Ha2.out.below Hbw.out) (j := k) (by have := Hn.out; omega)
        obtain ⟨g2, o2, Q, m2, e2, y, rfl, hy, hl2, hs2, hc2⟩ := lists_at (Hb.out.below Hbw.out) (Hb2.out.below Hbw.out) (j := k) (by have := Hm.out; omega)
        have Hx := Lib.hid hx; clear hx
        have Hy := Lib.hid hy; clear hy
        have hcall := BytesEqual_any P Q m1 m2 e1 e2 x y wr hl1 hl2 hs1 hs2
        clear hl1 hl2 hs1 hs2
        have b0 : (0 : Int) ≤ (k : Int) := by omega
        have b1 : (k : Int) < (n : Int) := by omega
        by_cases he : x = y
        · rw [decide_eq_true he] at hcall
          have Hcall := Lib.hid hcall; clear hcall
          have He := Lib.hid he; clear he
          go_wp2_with (go_at_call 38; refine Hcall.out.mono ?_; rintro e w1 ⟨rfl, rfl⟩)
          go_roundw
          case rel => exact ⟨k + 1, by omega, by go_num, Hbw.out, by rw [take_more_of Hx.out, take_more_of Hy.out, Htk.out, He.out]⟩
          case measure => simp [intOf]; omega
        · rw [decide_eq_false he] at hcall
          have Hcall := Lib.hid hcall; clear hcall
          have He := Lib.hid he; clear he
          go_wp2_with (go_at_call 38; refine Hcall.out.mono ?_; rintro e w1 ⟨rfl, rfl⟩)
          go_ret
          exact ⟨bool_ret (by rw [decide_eq_false (differ_of Hx.out Hy.out He.out)]), Hbw.out⟩
      · obtain rfl : k = n := by omega
        go_wp2
        go_ret
        exact ⟨bool_ret (by rw [decide_eq_true (alike_of Htk.out Hn.out Hm.out)]), Hbw.out⟩
  · go_enter Try.func39, Try.ntmps39
    go_wp2
    go_ret
    exact ⟨bool_ret (by rw [decide_eq_false]; intro e; rw [e] at hn; omega), Below.refl _ _⟩
theorem row4 {w : World} {g : Nat} {a b c d : Value} {t : TypeId} (h : w.heap[g]? = some (.cells #[a, b, c, d] t (0, 0))) : w.cell? ⟨g, 0, none⟩ = some a ∧ w.cell? ⟨g, 1, none⟩ = some b ∧ w.cell? ⟨g, 2, none⟩ = some c ∧ w.cell? ⟨g, 3, none⟩ = some d :=
  ⟨row_cell h 0, row_cell h 1, row_cell h 2, row_cell h 3⟩
theorem row_below {w w' : World} {g : Nat} {o : Obj} (h : w.heap[g]? = some o) (hb : Below w.heap.size w w') : w'.heap[g]? = some o := by
  rw [hb.block g (Array.getElem?_eq_some_iff.1 h).1]; exact h
/-- the pieces of a comparison -/
theorem sameM_of {a b : Msg} {p q r s : Bool} (h1 : decide (a.k = b.k) = p) (h2 : decide (a.ns = b.ns) = q) (h3 : decide (a.b = b.b) = r) (h4 : decide (a.ls = b.ls) = s) : sameM a b = (p && (q && (r && s))) := by
  unfold sameM
  rw [h1, h2, h3, h4]

set_option maxRecDepth 100000 in
set_option maxHeartbeats 1000000 in
theorem FSame_any (a b : Msg) (N B L N2 B2 L2 : Option Addr) (nn nc bn bc ln lc nn2 nc2 bn2 bc2 ln2 lc2 : Nat) (w : World) (h : MsgAt w a N nn nc B bn bc L ln lc) (h' : MsgAt w b N2 nn2 nc2 B2 bn2 bc2 L2 ln2 lc2) :
    Calls Try.prog 19 #[.agg #[.int .i64 a.k, .slice N nn nc, .slice B bn bc, .slice L ln lc], .agg #[.int .i64 b.k, .slice N2 nn2 nc2, .slice B2 bn2 bc2, .slice L2 ln2 lc2]] w fun e w' => e = .returned (.bool (sameM a b)) ∧ Below w.heap.size w w' := by
  have H := Lib.hid h; have H' := Lib.hid h'
  clear h h'
  obtain ⟨w2, hw2, hb2, hh1, hh2⟩ : ∃ w2, (w.alloc (.cells #[.int .i64 a.k, .slice N nn nc, .slice B bn bc, .slice L ln lc] 26)).alloc (.cells #[.int .i64 b.k, .slice N2 nn2 nc2, .slice B2 bn2 bc2, .slice L2 ln2 lc2] 26) = w2 ∧ Below w.heap.size w w2 ∧
      w2.heap[w.heap.size]? = some (.cells #[.int .i64 a.k, .slice N nn nc, .slice B bn bc, .slice L ln lc] 26 (0, 0)) ∧ w2.heap[w.heap.size + 1]? = some (.cells #[.int .i64 b.k, .slice N2 nn2 nc2, .slice B2 bn2 bc2, .slice L2 ln2 lc2] 26 (0, 0)) := by
    have e : (w.alloc (.cells #[.int .i64 a.k, .slice N nn nc, .slice B bn bc, .slice L ln lc] 26)).heap.size = w.heap.size + 1 := by simp
    refine ⟨_, rfl, ((Below.refl _ _).alloc (Nat.le_refl _) _).alloc (by rw [e]; omega) _, ?_, ?_⟩
    · rw [Below.heap_alloc _ _ _ (by rw [e]; omega)]
      exact heap_alloc_new _ _
    · rw [← e]
      exact heap_alloc_new _ _
  have C := Lib.hid (fun (w' : World) (h : Below w2.heap.size w2 w') => And.intro (row4 (row_below hh1 h)) (row4 (row_below hh2 h)))
  obtain ⟨⟨c0, c1, c2, c3⟩, d0, d1, d2, d3⟩ := C.out w2 (Below.refl _ _)
  clear hh1 hh2
  have HW := Lib.hid hb2; clear hb2
  have M := Lib.hid (H.out.below HW.out); have M' := Lib.hid (H'.out.below HW.out)
  obtain ⟨p, hp⟩ : ∃ p, decide (a.k = b.k) = p := ⟨_, rfl⟩
  obtain ⟨q, hq⟩ : ∃ p, decide (a.ns = b.ns) = p := ⟨_, rfl⟩
  obtain ⟨r, hr⟩ : ∃ p, decide (a.b = b.b) = p := ⟨_, rfl⟩
  obtain ⟨s, hs⟩ : ∃ p, decide (a.ls = b.ls) = p := ⟨_, rfl⟩
  rw [sameM_of hp hq hr hs]
  have hk : (a.k == b.k) = p := by rw [← hp]; exact Bool.eq_iff_iff.2 (by simp)
  obtain ⟨ka, hka⟩ : ∃ k, a.k = k := ⟨_, rfl⟩
  obtain ⟨kb, hkb⟩ : ∃ k, b.k = k := ⟨_, rfl⟩
  rw [hka] at hw2 c0 C hk ⊢
  rw [hkb] at hw2 d0 C hk ⊢
  have Hq := Lib.hid hq; have Hr := Lib.hid hr; have Hs := Lib.hid hs
  clear hp hq hr hs hka hkb
  have hints := SlEqual_any N N2 nn nn2 nc nc2 a.ns b.ns w2 M.out.n0 M'.out.n0 M.out.ns M'.out.ns M.out.n1
  rw [Hq.out] at hints
  have Hints := Lib.hid hints; clear hints
  obtain ⟨ps, p1, p2⟩ := H.out.ls
  obtain ⟨qs, q1, q2⟩ := H'.out.ls
  have P1 := Lib.hid (p1.below HW.out); have P2 := Lib.hid (p2.below HW.out); have Q1 := Lib.hid (q1.below HW.out); have Q2 := Lib.hid (q2.below HW.out)
  clear p1 p2 q1 q2
  cases p
  · go_enter Try.func19, Try.ntmps19
    go_wp2
    go_ret
    exact ⟨rfl, HW.out⟩
  cases q
  · go_enter Try.func19, Try.ntmps19
    go_wp2_with (go_at_call 37; refine Hints.out.mono ?_; rintro e w3 ⟨rfl, hb3⟩; have Hb3 := Lib.hid (HW.out.trans (hb3.mono HW.out.size)); clear hb3)
    go_ret
    exact ⟨rfl, Hb3.out⟩
  cases r
  · go_enter Try.func19, Try.ntmps19
    go_wp2_with (first
      | (go_at_call 37; refine Hints.out.mono ?_; rintro e w3 ⟨rfl, hb3⟩; have Hb3 := Lib.hid hb3; obtain ⟨⟨e0, e1, e2, e3⟩, f0, f1, f2, f3⟩ := C.out w3 hb3; clear hb3)
      | (go_at_call 38; refine (BytesEqual_any B B2 bn bn2 bc bc2 a.b b.b w3 M.out.b0 M'.out.b0 (M.out.b.below Hb3.out) (M'.out.b.below Hb3.out)).mono ?_; rw [Hr.out]; rintro e w4 ⟨rfl, rfl⟩))
    go_ret
    exact ⟨rfl, HW.out.trans (Hb3.out.mono HW.out.size)⟩
  · go_enter Try.func19, Try.ntmps19
    go_wp2_with (first
      | (go_at_call 37; refine Hints.out.mono ?_; rintro e w3 ⟨rfl, hb3⟩; have Hb3 := Lib.hid hb3; obtain ⟨⟨e0, e1, e2, e3⟩, f0, f1, f2, f3⟩ := C.out w3 hb3; clear hb3)
      | (go_at_call 38; refine (BytesEqual_any B B2 bn bn2 bc bc2 a.b b.b w3 M.out.b0 M'.out.b0 (M.out.b.below Hb3.out) (M'.out.b.below Hb3.out)).mono ?_; rw [Hr.out]; rintro e w4 ⟨rfl, rfl⟩)
      | (go_at_call 39; refine (SlEqualFunc_any L L2 ln ln2 lc lc2 ps qs a.ls b.ls w3 M.out.l0 M'.out.l0 (P1.out.below Hb3.out) (P2.out.below Hb3.out) (Q1.out.below Hb3.out) (Q2.out.below Hb3.out) M.out.l1).mono ?_; rw [Hs.out]; rintro e w5 ⟨rfl, hb5⟩; have Hb5 := Lib.hid ((HW.out.trans (Hb3.out.mono HW.out.size)).trans (hb5.mono (Nat.le_trans HW.out.size Hb3.out.size))); clear hb5))
    go_ret
    exact ⟨rfl, Hb5.out⟩

set_option maxRecDepth 100000 in
set_option maxHeartbeats 1000000 in
theorem RSame7_any (a b : Msg) (N B L N2 B2 L2 : Option Addr) (nn nc bn bc ln lc nn2 nc2 bn2 bc2 ln2 lc2 : Nat) (w : World) (h : MsgAt w a N nn nc B bn bc L ln lc) (h' : MsgAt w b N2 nn2 nc2 B2 bn2 bc2 L2 ln2 lc2) :
    Calls Try.prog 16 #[.agg #[.int .i64 a.k, .slice N nn nc, .slice B bn bc, .slice L ln lc], .agg #[.int .i64 b.k, .slice N2 nn2 nc2, .slice B2 bn2 bc2, .slice L2 ln2 lc2]] w fun e w' => e = .returned (.bool (sameM a b)) ∧ Below w.heap.size w w' := by
  have H := Lib.hid h; have H' := Lib.hid h'
  clear h h'
  obtain ⟨w2, hw2, hb2, hh1, hh2⟩ : ∃ w2, (w.alloc (.cells #[.int .i64 a.k, .slice N nn nc, .slice B bn bc, .slice L ln lc] 26)).alloc (.cells #[.int .i64 b.k, .slice N2 nn2 nc2, .slice B2 bn2 bc2, .slice L2 ln2 lc2] 26) = w2 ∧ Below w.heap.size w w2 ∧
      w2.heap[w.heap.size]? = some (.cells #[.int .i64 a.k, .slice N nn nc, .slice B bn bc, .slice L ln lc] 26 (0, 0)) ∧ w2.heap[w.heap.size + 1]? = some (.cells #[.int .i64 b.k, .slice N2 nn2 nc2, .slice B2 bn2 bc2, .slice L2 ln2 lc2] 26 (0, 0)) := by
    have e : (w.alloc (.cells #[.int .i64 a.k, .slice N nn nc, .slice B bn bc, .slice L ln lc] 26)).heap.size = w.heap.size + 1 := by simp
    refine ⟨_, rfl, ((Below.refl _ _).alloc (Nat.le_refl _) _).alloc (by rw [e]; omega) _, ?_, ?_⟩
    · rw [Below.heap_alloc _ _ _ (by rw [e]; omega)]
      exact heap_alloc_new _ _
    · rw [← e]
      exact heap_alloc_new _ _
  have C := Lib.hid (fun (w' : World) (h : Below w2.heap.size w2 w') => And.intro (row4 (row_below hh1 h)) (row4 (row_below hh2 h)))
  obtain ⟨⟨c0, c1, c2, c3⟩, d0, d1, d2, d3⟩ := C.out w2 (Below.refl _ _)
  clear hh1 hh2
  have HW := Lib.hid hb2; clear hb2
  have M := Lib.hid (H.out.below HW.out); have M' := Lib.hid (H'.out.below HW.out)
  obtain ⟨p, hp⟩ : ∃ p, decide (a.k = b.k) = p := ⟨_, rfl⟩
  obtain ⟨q, hq⟩ : ∃ p, decide (a.ns = b.ns) = p := ⟨_, rfl⟩
  obtain ⟨r, hr⟩ : ∃ p, decide (a.b = b.b) = p := ⟨_, rfl⟩
  obtain ⟨s, hs⟩ : ∃ p, decide (a.ls = b.ls) = p := ⟨_, rfl⟩
  rw [sameM_of hp hq hr hs]
  have hk : (a.k != b.k) = !p := by rw [← hp]; rfl
  obtain ⟨ka, hka⟩ : ∃ k, a.k = k := ⟨_, rfl⟩
  obtain ⟨kb, hkb⟩ : ∃ k, b.k = k := ⟨_, rfl⟩
  rw [hka] at hw2 c0 C hk ⊢
  rw [hkb] at hw2 d0 C hk ⊢
  have Hq := Lib.hid hq; have Hr := Lib.hid hr; have Hs := Lib.hid hs
  clear hp hq hr hs hka hkb
  have hints := SameInts_any N N2 nn nn2 nc nc2 a.ns b.ns w2 M.out.n0 M'.out.n0 M.out.ns M'.out.ns M.out.n1
  rw [Hq.out] at hints
  have Hints := Lib.hid hints; clear hints
  obtain ⟨ps, p1, p2⟩ := H.out.ls
  obtain ⟨qs, q1, q2⟩ := H'.out.ls
  have P1 := Lib.hid (p1.below HW.out); have P2 := Lib.hid (p2.below HW.out); have Q1 := Lib.hid (q1.below HW.out); have Q2 := Lib.hid (q2.below HW.out)
  clear p1 p2 q1 q2
  have hbn := M.out.b1; have hln := M.out.l1
  unfold maxLen at hbn hln
  cases p
  · have hk2 : (ka != kb) = true := hk
    clear hk
    go_enter Try.func16, Try.ntmps16
    go_wp2
    go_ret
    exact ⟨rfl, HW.out⟩
  have hk2 : (ka != kb) = false := hk
  clear hk
  cases q
  · go_enter Try.func16, Try.ntmps16
    go_wp2_with (go_at_call 33; refine Hints.out.mono ?_; rintro e w3 ⟨rfl, hb3⟩; have Hb3 := Lib.hid (HW.out.trans (hb3.mono HW.out.size)); clear hb3)
    go_ret
    exact ⟨rfl, Hb3.out⟩
  cases r
  · go_enter Try.func16, Try.ntmps16
    go_wp2_with (first
      | (go_at_call 33; refine Hints.out.mono ?_; rintro e w3 ⟨rfl, hb3⟩; have Hb3 := Lib.hid hb3; obtain ⟨⟨e0, e1, e2, e3⟩, f0, f1, f2, f3⟩ := C.out w3 hb3; clear hb3)
      | (go_at_call 14; refine (Same_any B B2 bn bn2 bc bc2 a.b b.b w3 M.out.b0 M'.out.b0 (M.out.b.below Hb3.out) (M'.out.b.below Hb3.out) (by omega)).mono ?_; rw [Hr.out]; rintro e w4 ⟨rfl, hb4⟩; have Hb4 := Lib.hid ((HW.out.trans (Hb3.out.mono HW.out.size)).trans (hb4.mono (Nat.le_trans HW.out.size Hb3.out.size))); clear hb4))
    go_ret
    exact ⟨rfl, Hb4.out⟩
  by_cases hlen : ln = ln2
  · subst hlen
    go_enter Try.func16, Try.ntmps16
    go_wp2_with (first
      | (go_at_call 33; refine Hints.out.mono ?_; rintro e w3 ⟨rfl, hb3⟩; have Hb3 := Lib.hid hb3; obtain ⟨⟨e0, e1, e2, e3⟩, f0, f1, f2, f3⟩ := C.out w3 hb3; clear hb3)
      | (go_at_call 14; refine (Same_any B B2 bn bn2 bc bc2 a.b b.b w3 M.out.b0 M'.out.b0 (M.out.b.below Hb3.out) (M'.out.b.below Hb3.out) (by omega)).mono ?_; rw [Hr.out]; rintro e w4 ⟨rfl, hb4⟩; have Hb4 := Lib.hid (Hb3.out.trans (hb4.mono Hb3.out.size)); obtain ⟨⟨x0, x1, x2, x3⟩, y0, y1, y2, y3⟩ := C.out w4 Hb4.out; clear hb4))
    clear hw2 c0 c1 c2 c3 d0 d1 d2 d3 e0 e1 e2 e3 f0 f1 f2 f3 x0 x1 x2 x3 y0 y1 y2 y3
    go_loopw [5] (fun i wr => ∃ k : Nat, k ≤ ln ∧ i = .int .i64 k ∧ Below w2.heap.size w2 wr ∧ a.ls.take k = b.ls.take k) (fun i _ => ln - (intOf i).toNat)
    case atStart => exact ⟨0, by omega, rfl, Hb4.out, rfl⟩
    case round =>
      obtain ⟨k, hk, rfl, hbw, htk⟩ := hrel
      obtain ⟨⟨x0, x1, x2, x3⟩, y0, y1, y2, y3⟩ := C.out wr hbw
      have Hbw := Lib.hid hbw; clear hbw
      have Htk := Lib.hid htk; clear htk
      by_cases hlt : k < ln
      · obtain ⟨g, o, P, m1, i1, x, rfl, hx, hl1, hs1, hc⟩ := lists_at (P1.out.below Hbw.out) (P2.out.below Hbw.out) (j := k) (by have := M.out.l0; omega)
        obtain ⟨g2, o2, Q, m2, i2, y, rfl, hy, hl2, hs2, hc2⟩ := lists_at (Q1.out.below Hbw.out) (Q2.out.below Hbw.out) (j := k) (by have := M'.out.l0; omega)
        have hxb := M.out.lb x (List.mem_of_getElem? hx)
        unfold maxLen at hxb
        have hcall := Same_any P Q m1 m2 i1 i2 x y wr.drew hl1 hl2 (hs1.below (Below.refl _ _).drew) (hs2.below (Below.refl _ _).drew) (by omega)
        have Hx := Lib.hid hx; clear hx
        have Hy := Lib.hid hy; clear hy
        clear hl1 hl2 hs1 hs2 hxb
        have k0 : (0 : Int) ≤ (k : Int) := by omega
        have k1 : (k : Int) < (ln : Int) := by omega
        by_cases he : x = y
        · rw [decide_eq_true he] at hcall
          have Hcall := Lib.hid hcall; clear hcall
          have He := Lib.hid he; clear he
          go_wp2
          go_still_tail 10, (by kernel_rfl)
          change wpList _ _ _ _ _ wr.drew
          go_wp2_with (go_at_call 14; refine Hcall.out.mono ?_; rintro e w5 ⟨rfl, hb5⟩; have Hb5 := Lib.hid (Hbw.out.trans ((Below.refl wr.heap.size wr).drew.trans hb5 |>.mono Hbw.out.size)); clear hb5)
          go_roundw
          case rel => exact ⟨k + 1, by omega, by go_num, Hb5.out, by rw [take_more_of Hx.out, take_more_of Hy.out, Htk.out, He.out]⟩
          case measure => simp [intOf]; omega
        · rw [decide_eq_false he] at hcall
          have Hcall := Lib.hid hcall; clear hcall
          have He := Lib.hid he; clear he
          go_wp2
          go_still_tail 10, (by kernel_rfl)
          change wpList _ _ _ _ _ wr.drew
          go_wp2_with (go_at_call 14; refine Hcall.out.mono ?_; rintro e w5 ⟨rfl, hb5⟩; have Hb5 := Lib.hid (Hbw.out.trans ((Below.refl wr.heap.size wr).drew.trans hb5 |>.mono Hbw.out.size)); clear hb5)
          go_ret
          exact ⟨bool_ret (by rw [← Hs.out, decide_eq_false (differ_of Hx.out Hy.out He.out)]; rfl), HW.out.trans (Hb5.out.mono HW.out.size)⟩
      · obtain rfl : k = ln := by omega
        go_wp2
        go_ret
        exact ⟨bool_ret (by rw [← Hs.out, decide_eq_true (alike_of Htk.out M.out.l0 M'.out.l0)]; rfl), HW.out.trans (Hbw.out.mono HW.out.size)⟩
  · have hsf : s = false := by
      rw [← Hs.out]
      exact decide_eq_false fun e => hlen (by rw [← M.out.l0, ← M'.out.l0, e])
    subst hsf
    go_enter Try.func16, Try.ntmps16
    go_wp2_with (first
      | (go_at_call 33; refine Hints.out.mono ?_; rintro e w3 ⟨rfl, hb3⟩; have Hb3 := Lib.hid hb3; obtain ⟨⟨e0, e1, e2, e3⟩, f0, f1, f2, f3⟩ := C.out w3 hb3; clear hb3)
      | (go_at_call 14; refine (Same_any B B2 bn bn2 bc bc2 a.b b.b w3 M.out.b0 M'.out.b0 (M.out.b.below Hb3.out) (M'.out.b.below Hb3.out) (by omega)).mono ?_; rw [Hr.out]; rintro e w4 ⟨rfl, hb4⟩; have Hb4 := Lib.hid (Hb3.out.trans (hb4.mono Hb3.out.size)); obtain ⟨⟨x0, x1, x2, x3⟩, y0, y1, y2, y3⟩ := C.out w4 Hb4.out; clear hb4))
    go_ret
    exact ⟨rfl, HW.out.trans (Hb4.out.mono HW.out.size)⟩
end Go.Proofs.Ytmlmkfooiikcgaa
