/-
  A message in memory; contracts of frames.Check and its parts, and of dotterelref07's Right and Great.
-/
import Derived.Test.YtmlmkfooiikcgaaFraMath
import Derived.Test.YtmlmkfooiikcgaaOpenTexts
namespace Go.Proofs.Ytmlmkfooiikcgaa
open Go.ChangeShapes Go.WideShapes Go.ChangeAt Go.RowKit
set_option linter.unusedVariables false

def numsV (l : List Int) : List Value := l.map fun x => .int .i64 x
theorem Seen.num {w : World} {A : Option Addr} {ns : List Int} (h : Seen w A (numsV ns)) {j : Nat} (hj : j < ns.length) :
    ∃ g o x, A = some ⟨g, o, none⟩ ∧ ns[j]? = some x ∧ w.cell? ⟨g, o + j, none⟩ = some (.int .i64 x) := by
  obtain ⟨g, o, hA, hc⟩ := h.at_ (j := j) (by simpa [numsV] using hj)
  exact ⟨g, o, ns[j], hA, List.getElem?_eq_getElem hj, by simpa [numsV] using hc⟩
/-- a list among lists -/
theorem lists_at {w : World} {A : Option Addr} {ps : List (Option Addr × Nat × Nat)} {ls : List (List UInt8)} (h : Seen w A (listsV ps)) (hl : ArgLists w ps ls) {j : Nat} (hj : j < ls.length) :
    ∃ g o P m c l, A = some ⟨g, o, none⟩ ∧ ls[j]? = some l ∧ l.length = m ∧ Seen w P (bytesV l) ∧ w.cell? ⟨g, o + j, none⟩ = some (.slice P m c) := by
  obtain ⟨P, m, c, l, h1, h2, h3, h4⟩ := hl.at_ hj
  obtain ⟨g, o, hA, hc⟩ := h.at_ (j := j) (by rw [listsV, List.length_map, hl.1]; exact hj)
  refine ⟨g, o, P, m, c, l, hA, h2, h3, h4, ?_⟩
  rw [hc]
  have := (List.getElem?_eq_some_iff.1 h1).2
  simp [listsV, this]

/-- a message in memory: where its numbers, bytes and lists are -/
structure MsgAt (w : World) (m : Msg) (N : Option Addr) (nn nc : Nat) (B : Option Addr) (bn bc : Nat) (L : Option Addr) (ln lc : Nat) : Prop where
  k1 : -9223372036854775808 ≤ m.k
  k2 : m.k ≤ 9223372036854775807
  n0 : m.ns.length = nn
  n1 : nn ≤ maxLen
  ns : Seen w N (numsV m.ns)
  nb : ∀ n ∈ m.ns, -9223372036854775808 ≤ n ∧ n ≤ 9223372036854775807
  b0 : m.b.length = bn
  b1 : bn ≤ maxLen
  b : Seen w B (bytesV m.b)
  l0 : m.ls.length = ln
  l1 : ln ≤ maxLen
  lb : ∀ l ∈ m.ls, l.length ≤ maxLen
  ls : ∃ ps, Seen w L (listsV ps) ∧ ArgLists w ps m.ls
theorem MsgAt.below {w w' : World} {m : Msg} {N B L : Option Addr} {nn nc bn bc ln lc : Nat} (h : MsgAt w m N nn nc B bn bc L ln lc) (hb : Below w.heap.size w w') : MsgAt w' m N nn nc B bn bc L ln lc :=
  ⟨h.k1, h.k2, h.n0, h.n1, h.ns.below hb, h.nb, h.b0, h.b1, h.b.below hb, h.l0, h.l1, h.lb, by
    obtain ⟨ps, h1, h2⟩ := h.ls
    exact ⟨ps, h1.below hb, h2.below hb⟩⟩
theorem MsgAt.alloc {w : World} {m : Msg} {N B L : Option Addr} {nn nc bn bc ln lc : Nat} (h : MsgAt w m N nn nc B bn bc L ln lc) (o : Obj) : MsgAt (w.alloc o) m N nn nc B bn bc L ln lc := h.below ((Below.refl _ _).alloc (Nat.le_refl _) o)

theorem numR1_lo {n : Int} (h : n < 0) : numR1 n = false := by
  unfold numR1
  rw [decide_eq_false (by omega)]; rfl
theorem numR1_hi {n : Int} (h : 4611686018427387904 < n) : numR1 n = false := by
  unfold numR1
  rw [decide_eq_false (p := n ≤ 4611686018427387904) (by omega), Bool.and_false]
theorem numR1_ok {n : Int} (h : ¬ n < 0) (h2 : ¬ 4611686018427387904 < n) : numR1 n = true := by
  unfold numR1
  rw [decide_eq_true (show 0 ≤ n by omega), decide_eq_true (show n ≤ 4611686018427387904 by omega)]; rfl
theorem numsR_long {ns : List Int} (h : 16 < ns.length) : numsR ns = false := by
  unfold numsR
  rw [decide_eq_false (by omega)]; rfl
theorem listsR_long {ls : List (List UInt8)} (h : 64 < ls.length) : listsR ls = false := by
  unfold listsR
  rw [decide_eq_false (by omega)]; rfl

set_option maxRecDepth 100000 in
theorem numbersRight_any (A : Option Addr) (n c : Nat) (ns : List Int) (w : World) (hn : ns.length = n) (hm : n ≤ maxLen) (h : Seen w A (numsV ns)) :
    Calls Try.prog 24 #[.slice A n c] w fun e w' => e = .returned (.bool (numsR ns)) ∧ w = w' := by
  have Hs := Lib.hid h; clear h
  unfold maxLen at hm
  by_cases h16 : 16 < n
  · have hr := Lib.hid (numsR_long (ns := ns) (by omega))
    go_enter Try.func24, Try.ntmps24
    go_wp2
    go_ret
    exact ⟨bool_ret hr.out.symm, rfl⟩
  · have Hn := Lib.hid hn; clear hn
    go_enter Try.func24, Try.ntmps24
    go_wp2
    go_loop [10] (fun i => ∃ k : Nat, i = .int .i64 k ∧ k ≤ n ∧ numsTo ns k) (fun i => n - (intOf i).toNat)
    case atStart => exact ⟨0, rfl, by omega, numsTo.zero _⟩
    case round =>
      obtain ⟨k, rfl, hk, ht⟩ := hrel
      have Ht := Lib.hid ht; clear ht
      by_cases hlt : k < n
      · obtain ⟨g, o, x, rfl, hx, hc⟩ := Hs.out.num (j := k) (by have := Hn.out; omega)
        have Hx := Lib.hid hx; clear hx
        by_cases h0 : x < 0
        · go_wp2
          go_ret
          exact ⟨bool_ret (nums_bad Hx.out (numR1_lo h0)).symm, rfl⟩
        · by_cases h62 : 4611686018427387904 < x
          · go_wp2
            go_ret
            exact ⟨bool_ret (nums_bad Hx.out (numR1_hi h62)).symm, rfl⟩
          · go_wp2
            go_round
            case rel => exact ⟨k + 1, by go_num, by omega, Ht.out.step Hx.out (numR1_ok h0 h62)⟩
            case measure => simp [intOf]; omega
      · obtain rfl : k = n := by omega
        go_wp2
        go_ret
        exact ⟨bool_ret (by have h := Ht.out; rw [← Hn.out] at h; rw [h.all (by have := Hn.out; omega)]), rfl⟩

set_option maxRecDepth 100000 in
theorem listsRight_any (A : Option Addr) (n c : Nat) (ps : List (Option Addr × Nat × Nat)) (ls : List (List UInt8)) (w : World) (hn : ls.length = n) (hm : n ≤ maxLen) (h : Seen w A (listsV ps)) (hl : ArgLists w ps ls) :
    Calls Try.prog 25 #[.slice A n c] w fun e w' => e = .returned (.bool (listsR ls)) ∧ w = w' := by
  have Hs := Lib.hid h; clear h
  have Hl := Lib.hid hl; clear hl
  unfold maxLen at hm
  by_cases h64 : 64 < n
  · have hr := Lib.hid (listsR_long (ls := ls) (by omega))
    go_enter Try.func25, Try.ntmps25
    go_wp2
    go_ret
    exact ⟨bool_ret hr.out.symm, rfl⟩
  · have Hn := Lib.hid hn; clear hn
    go_enter Try.func25, Try.ntmps25
    go_wp2
    go_loop [3, 11] (fun s i => ∃ k q : Nat, i = .int .i64 k ∧ s = .int .i64 q ∧ k ≤ n ∧ q ≤ 2048 * k ∧ q = sumL (ls.take k) ∧ listsTo ls k) (fun _ i => n - (intOf i).toNat)
    case atStart => exact ⟨0, 0, rfl, rfl, by omega, by omega, rfl, listsTo.zero _⟩
    case round =>
      obtain ⟨k, q, rfl, rfl, hk, hqb, hq, ht⟩ := hrel
      have Ht := Lib.hid ht; clear ht
      have Hq := Lib.hid hq; clear hq
      by_cases hlt : k < n
      · obtain ⟨g, o, P, m, c2, l, rfl, hx, hlm, hsl, hc⟩ := lists_at Hs.out Hl.out (j := k) (by have := Hn.out; omega)
        have Hx := Lib.hid hx; clear hx
        have Hlm := Lib.hid hlm; clear hlm hsl
        by_cases hbig : 2048 < m
        · go_wp2
          go_ret
          exact ⟨bool_ret (lists_bad Hx.out (by rw [Hlm.out]; exact hbig)).symm, rfl⟩
        · go_wp2
          go_round
          case rel => exact ⟨k + 1, q + m, by go_num, by go_num, by omega, by omega, by rw [sumL_take Hx.out, Hq.out, Hlm.out], Ht.out.step Hx.out (by rw [Hlm.out]; omega)⟩
          case measure => simp [intOf]; omega
      · obtain rfl : k = n := by omega
        have hr : listsR ls = decide ((q : Int) ≤ 65536) := by
          have h := Ht.out
          rw [← Hn.out] at h
          rw [h.all (by have := Hn.out; omega), Hq.out, ← Hn.out, List.take_length]
          exact decide_eq_decide.2 (by omega)
        have Hr := Lib.hid hr; clear hr
        go_wp2
        go_ret
        exact ⟨bool_ret Hr.out.symm, rfl⟩

theorem right_no {m : Msg} (h : m.k < 1 ∨ 40 < m.k ∨ numsR m.ns = false ∨ 2048 < m.b.length ∨ listsR m.ls = false) : rightM m = false := by
  cases hr : rightM m
  · rfl
  · obtain ⟨h1, h2, h3, h4, h5⟩ := right_parts hr
    rw [h3, h5] at h
    simp at h
    omega
theorem right_yes {m : Msg} (h1 : ¬ m.k < 1) (h2 : ¬ 40 < m.k) (h3 : numsR m.ns = true) (h4 : ¬ 2048 < m.b.length) (h5 : listsR m.ls = true) : rightM m = true := by
  unfold rightM
  rw [h3, h5, decide_eq_true (show 1 ≤ m.k by omega), decide_eq_true (show m.k ≤ 40 by omega), decide_eq_true (show m.b.length ≤ 2048 by omega)]; rfl
/-- Check's answer -/
def chk (m : Msg) : Nat := if rightM m = true then 0 else 3
theorem chk_no {m : Msg} (h : rightM m = false) : chk m = 3 := by unfold chk; rw [h]; rfl
theorem chk_yes {m : Msg} (h : rightM m = true) : chk m = 0 := by unfold chk; rw [h]; rfl

set_option maxRecDepth 100000 in
theorem Check_any (m : Msg) (N B L : Option Addr) (nn nc bn bc ln lc : Nat) (w : World) (h : MsgAt w m N nn nc B bn bc L ln lc) :
    Calls Try.prog 12 #[.agg #[.int .i64 m.k, .slice N nn nc, .slice B bn bc, .slice L ln lc]] w fun e w' => e = .returned (.int .i64 (chk m : Int)) ∧ Below w.heap.size w w' := by
  have H := Lib.hid h
  have h1 := h.k1; have h2 := h.k2; have h3 := h.n1; have h4 := h.b1; have h5 := h.l1
  unfold maxLen at h3 h4 h5
  clear h
  obtain ⟨k, hk⟩ : ∃ k, m.k = k := ⟨_, rfl⟩
  rw [hk] at h1 h2 ⊢
  obtain ⟨rn, hrn⟩ : ∃ b, numsR m.ns = b := ⟨_, rfl⟩
  obtain ⟨rl, hrl⟩ : ∃ b, listsR m.ls = b := ⟨_, rfl⟩
  have Hk := Lib.hid hk; have Hrn := Lib.hid hrn; have Hrl := Lib.hid hrl
  clear hk hrn hrl
  have hb0 : Below w.heap.size w (w.alloc (.cells #[.int .i64 k, .slice N nn nc, .slice B bn bc, .slice L ln lc] 26)) := (Below.refl _ _).alloc (Nat.le_refl _) _
  have Hb0 := Lib.hid hb0; clear hb0
  by_cases c1 : k < 1
  · have hr := Lib.hid (chk_no (m := m) (right_no (.inl (by rw [Hk.out]; exact c1))))
    go_enter Try.func12, Try.ntmps12
    go_wp2
    go_ret
    rw [hr.out]
    exact ⟨rfl, Hb0.out⟩
  · by_cases c2 : 40 < k
    · have hr := Lib.hid (chk_no (m := m) (right_no (.inr (.inl (by rw [Hk.out]; exact c2)))))
      go_enter Try.func12, Try.ntmps12
      go_wp2
      go_ret
      rw [hr.out]
      exact ⟨rfl, Hb0.out⟩
    · cases rn with
      | false =>
        have hr := Lib.hid (chk_no (m := m) (right_no (.inr (.inr (.inl Hrn.out)))))
        go_enter Try.func12, Try.ntmps12
        go_wp2_with (go_at_call 24; refine (numbersRight_any N nn nc m.ns _ H.out.n0 H.out.n1 (H.out.ns.below Hb0.out)).mono ?_; rintro e w1 ⟨rfl, rfl⟩; rw [Hrn.out])
        go_ret
        rw [hr.out]
        exact ⟨rfl, Hb0.out⟩
      | true =>
        by_cases c4 : 2048 < bn
        · have hr := Lib.hid (chk_no (m := m) (right_no (.inr (.inr (.inr (.inl (by rw [H.out.b0]; exact c4)))))))
          go_enter Try.func12, Try.ntmps12
          go_wp2_with (go_at_call 24; refine (numbersRight_any N nn nc m.ns _ H.out.n0 H.out.n1 (H.out.ns.below Hb0.out)).mono ?_; rintro e w1 ⟨rfl, rfl⟩; rw [Hrn.out])
          go_ret
          rw [hr.out]
          exact ⟨rfl, Hb0.out⟩
        · have hres : chk m = if rl = true then 0 else 3 := by
            cases rl with
            | false => exact chk_no (right_no (.inr (.inr (.inr (.inr Hrl.out)))))
            | true => exact chk_yes (right_yes (by rw [Hk.out]; exact c1) (by rw [Hk.out]; exact c2) Hrn.out (by rw [H.out.b0]; exact c4) Hrl.out)
          have Hres := Lib.hid hres; clear hres
          obtain ⟨ps, p1, p2⟩ := H.out.ls
          have P1 := Lib.hid p1; have P2 := Lib.hid p2
          clear p1 p2
          go_enter Try.func12, Try.ntmps12
          cases rl
          all_goals
            go_wp2_with (first
              | (go_at_call 24; refine (numbersRight_any N nn nc m.ns _ H.out.n0 H.out.n1 (H.out.ns.below Hb0.out)).mono ?_; rintro e w1 ⟨rfl, rfl⟩; rw [Hrn.out])
              | (go_at_call 25; refine (listsRight_any L ln lc ps m.ls _ H.out.l0 H.out.l1 (P1.out.below Hb0.out) (P2.out.below Hb0.out)).mono ?_; rintro e w1 ⟨rfl, rfl⟩; rw [Hrl.out]))
            go_ret
            rw [Hres.out]
            exact ⟨rfl, Hb0.out⟩
end Go.Proofs.Ytmlmkfooiikcgaa
