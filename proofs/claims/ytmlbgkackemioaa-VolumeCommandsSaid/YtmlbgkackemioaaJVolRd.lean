/-
  Joined: VolPut, VolRd. Conditions: each theorem's own.
-/
import Derived.Test.YtmlbgkackemioaaJVolAw
import Derived.Test.YtmlbgkackemioaaJPack

section
namespace Go.Proofs.Ytmlbgkackemioaa
open Go.ChangeShapes Go.WideShapes Go.ChangeAt Go.RowKit
set_option linter.unusedVariables false
set_option linter.unusedSimpArgs false

def putB (l : List Int) : List UInt8 := l.flatMap fun x => numB x.toNat
theorem putB_append (a b : List Int) : putB (a ++ b) = putB a ++ putB b := by simp [putB]
theorem putB_length : ∀ (l : List Int), (∀ x ∈ l, In64 x) → (putB l).length ≤ 9 * l.length
  | [], _ => by simp [putB]
  | x :: l, h => by
    have h1 := putB_length l (fun y hy => h y (List.mem_cons_of_mem _ hy))
    have h2 := numB_len9 (n := x.toNat) (by have := h x (List.mem_cons_self ..); unfold In64 at this; omega)
    have e : putB (x :: l) = numB x.toNat ++ putB l := by simp [putB]
    rw [e, List.length_append, List.length_cons]
    omega
def numsC (c : Cmd) : List Int := [c.k, c.a, c.b, c.c]
def numsP (p : Pol) : List Int := [p.re, p.we, p.li, p.bu]
def bytesC (c : Cmd) : List UInt8 := putB (numsC c ++ numsP c.p)
theorem IsW.noInts {w : World} {B g : Nat} {r : Option Nat} {xs : List UInt8} (h : IsW w B g r xs) : NoT w 3 (fun k => k = g ∨ r = some k) := by
  intro k cs fr hk e
  obtain ⟨hB, A, n, c, hh, hown, _, hro, _⟩ := h
  rcases hk with rfl | hk
  · rw [hh] at e
    injection e with e
    injection e with _ e
    exact absurd e (by decide)
  · obtain ⟨cs', e'⟩ := row_blockM hown (hro.trans hk)
    rw [e] at e'
    injection e' with e'
    injection e' with _ e'
    exact absurd e' (by decide)
set_option maxRecDepth 100000 in
set_option maxHeartbeats 1000000 in
theorem VputNums (B g : Nat) (r : Option Nat) (xs : List UInt8) (S : Sl) (us : List Int) (w : World) (hw : IsW w B g r xs) (hx : xs.length ≤ 900000) (hs : IntsT w S us) (hl : us.length ≤ 1000) (hu : ∀ x ∈ us, In64 x) :
    Calls Try.prog 41 #[.pointer (some ⟨g, 0, none⟩), .slice S.A S.n S.c] w fun e w' => e = .returned (.tuple #[]) ∧ GrewW B g r (xs ++ putB us) w w' := by
  obtain ⟨A, n, c⟩ := S
  have hn := hs.len
  simp only at hn ⊢
  have hn1000 : n ≤ 1000 := by omega
  have H := Lib.hid hs; have Hw := Lib.hid hw; have Hu := Lib.hid hu; have Hn := Lib.hid hn; have Hx := Lib.hid hx; have Hl := Lib.hid hl
  clear hs hw hu hn hx hl
  go_enter Try.func41, Try.ntmps41
  go_wp2
  go_loopw [5, 8] (fun _ iv wr => ∃ i : Nat, i ≤ n ∧ iv = .int .i64 (i : Int) ∧ GrewW B g r (xs ++ putB (us.take i)) w wr ∧ IntsT wr ⟨A, n, c⟩ us) (fun _ iv _ => n - (intOf iv).toNat)
  case atStart => exact ⟨0, by omega, rfl, by rw [List.take_zero]; simpa [putB] using GrewW.refl Hw.out, H.out⟩
  case round =>
    obtain ⟨i, hin, rfl, hg, hs⟩ := hrel
    by_cases hi : i < n
    · obtain ⟨x, hx⟩ : ∃ x, us[i]? = some x := ⟨_, List.getElem?_eq_getElem (by have := Hn.out; omega)⟩
      have hxi := Hu.out x (List.mem_of_getElem? hx)
      obtain ⟨r1, hw1, hr1, ht1⟩ := hg
      have htk : us.take (i + 1) = us.take i ++ [x] := by
        obtain ⟨h1, h2⟩ := List.getElem?_eq_some_iff.1 hx
        rw [List.take_succ_eq_append_getElem h1, h2]
      have hlen : (xs ++ putB (us.take i)).length ≤ 1000000 := by
        have h1 := putB_length (us.take i) (fun y hy => Hu.out y (List.mem_of_mem_take hy))
        have h2 : (us.take i).length ≤ us.length := (by rw [List.length_take]; omega)
        rw [List.length_append]
        have := Hx.out; have := Hl.out
        omega
      have KW := Lib.hid (WNum_any B g r1 (xs ++ putB (us.take i)) x wr hw1 hlen (by unfold In64 at hxi; omega) (by unfold In64 at hxi; omega))
      have i0 : (0 : Int) ≤ (i : Int) := by omega
      have i1 : (i : Int) < (n : Int) := by omega
      have e1 : (numsV us)[i]? = some (.int .i64 x) := by simp [numsV, hx]
      rcases hs.see.1 with h0 | ⟨g1, o1, hA, hc⟩
      · rw [h0] at e1; cases e1
      simp only at hA
      have d0 := hc _ _ e1
      have Hs := Lib.hid hs; have Hg := Lib.hid (show GrewW B g r (xs ++ putB (us.take i)) w wr from ⟨r1, hw1, hr1, ht1⟩); have Hw1 := Lib.hid hw1; have Htk := Lib.hid htk; have Hr1 := Lib.hid (And.intro hr1 ht1)
      clear hs hw1 hr1 ht1 hc htk hlen hx e1 hxi
      subst hA
      go_wp2_with (go_at_call 65; refine KW.out.mono ?_; rintro e w2 ⟨rfl, hg2⟩; have Hg2 := Lib.hid hg2; clear hg2)
      go_roundw
      case rel =>
        obtain ⟨r2, hw2, hr2, ht2⟩ := Hg2.out
        refine ⟨i + 1, by omega, by go_num, ?_, Hs.out.turned ht2 Hw1.out.noInts⟩
        rw [Htk.out, putB_append, ← List.append_assoc]
        have e9 : putB [x] = numB x.toNat := by simp [putB]
        rw [e9]
        refine ⟨r2, hw2, fun k hk => ?_, ?_⟩
        · rcases hr2 k hk with h | h
          · exact Hr1.out.1 k h
          · exact .inr (Nat.le_trans Hr1.out.2.size h)
        · refine Hr1.out.2.trans ht2 (fun _ e => e) (fun k hk e => ?_)
          rcases e with e | e
          · exact .inl e
          · rcases Hr1.out.1 k e with h | h
            · exact .inr h
            · omega
      case measure => simp [intOf]; omega
    · obtain rfl : i = n := by omega
      have i1 : ¬ (i : Int) < (i : Int) := by omega
      have hty : us.take i = us := List.take_of_length_le (by rw [Hn.out]; exact Nat.le_refl _)
      rw [hty] at hg
      have Hg := Lib.hid hg
      clear hg hs hty
      go_wp2
      go_end0
      exact ⟨rfl, Hg.out⟩
def NumsRet (p : Pol) (w : World) (e : Ending) (w' : World) : Prop :=
  ∃ b, e = .returned (.slice (some ⟨b, 0, none⟩) 4 4) ∧ w.heap.size ≤ b ∧ IntsT w' ⟨some ⟨b, 0, none⟩, 4, 4⟩ (numsP p) ∧ Below w.heap.size w w'
theorem four_ints {w : World} {b : Nat} {a1 a2 a3 a4 : Int} (h : w.heap[b]? = some (.cells #[.int .i64 a1, .int .i64 a2, .int .i64 a3, .int .i64 a4] 3 (0, 0))) : IntsT w ⟨some ⟨b, 0, none⟩, 4, 4⟩ [a1, a2, a3, a4] :=
  ⟨rfl, Nat.le_refl _, by show 4 ≤ maxLen; unfold maxLen; omega, Seen.of_cells h, .inr ⟨_, _, _, _, rfl, h⟩⟩
set_option maxRecDepth 100000 in
set_option maxHeartbeats 1000000 in
theorem VNums (p : Pol) (w : World) (hp : InP p) : Calls Try.prog 42 #[.agg #[.int .i64 p.re, .int .i64 p.we, .int .i64 p.li, .int .i64 p.bu]] w (NumsRet p w) := by
  obtain ⟨re, we, li, bu⟩ := p
  obtain ⟨w1, hw1⟩ : ∃ w1, w.alloc (.cells #[.int .i64 re, .int .i64 we, .int .i64 li, .int .i64 bu] 29) = w1 := ⟨_, rfl⟩
  have hb1 : Below w.heap.size w w1 := by rw [← hw1]; exact below_box _ _
  have ⟨c0, c1, c2, c3, _⟩ : PolAt w1 w.heap.size 0 ⟨re, we, li, bu⟩ := by rw [← hw1]; exact pol_of_row (heap_alloc_new _ _) hp
  simp only at c0 c1 c2 c3
  have Hb1 := Lib.hid hb1; clear hb1 hp
  go_enter Try.func42, Try.ntmps42
  go_wp2
  go_ret
  exact ⟨_, rfl, Hb1.out.size, four_ints (heap_alloc_new _ _), Hb1.out.alloc Hb1.out.size _⟩
attribute [local go_sem ↓] ldPol_eq
set_option maxRecDepth 100000 in
set_option maxHeartbeats 2000000 in
theorem VPut (c : Cmd) (w : World) (hc : CmdIn c) : Calls Try.prog 19 #[cmdA c] w (OwnRet 5 (bytesV (bytesC c)) w) := by
  unfold cmdA
  obtain ⟨w1, hw1, hb1, hr1⟩ := cmd_box w c
  have hin : ∀ x ∈ numsC c ++ numsP c.p, In64 x := by
    intro x hx
    have hp := hc.hp
    unfold InP at hp
    simp only [numsC, numsP, List.cons_append, List.nil_append, List.mem_cons, List.not_mem_nil, or_false] at hx
    rcases hx with rfl | rfl | rfl | rfl | rfl | rfl | rfl | rfl
    · exact hc.hk
    · exact hc.ha
    · exact hc.hb
    · exact hc.hc
    · exact hp.1
    · exact hp.2.1
    · exact hp.2.2.1
    · exact hp.2.2.2
  have hin1 : ∀ x ∈ numsC c, In64 x := fun x hx => hin x (List.mem_append_left _ hx)
  have hin2 : ∀ x ∈ numsP c.p, In64 x := fun x hx => hin x (List.mem_append_right _ hx)
  obtain ⟨w2, hw2⟩ : ∃ w2, w1.alloc (.cells #[.slice none 0 0] 93) = w2 := ⟨_, rfl⟩
  have hz : IsW w2 w1.heap.size w1.heap.size none [] := by rw [← hw2]; exact IsW.zero w1 _ (Nat.le_refl _)
  have hb2 : Below w1.heap.size w1 w2 := by rw [← hw2]; exact below_box _ _
  have hr2 := row_below hr1 hb2
  have c0 : w2.cell? ⟨w.heap.size, 0, none⟩ = some (.int .i64 c.k) := row_cell hr2 0
  have c1 : w2.cell? ⟨w.heap.size, 1, none⟩ = some (.int .i64 c.a) := row_cell hr2 1
  have c2 : w2.cell? ⟨w.heap.size, 2, none⟩ = some (.int .i64 c.b) := row_cell hr2 2
  have c3 : w2.cell? ⟨w.heap.size, 3, none⟩ = some (.int .i64 c.c) := row_cell hr2 3
  obtain ⟨w3, hw3⟩ : ∃ w3, w2.alloc (.cells #[.int .i64 c.k, .int .i64 c.a, .int .i64 c.b, .int .i64 c.c] 3) = w3 := ⟨_, rfl⟩
  have hb3 : Below w2.heap.size w2 w3 := by rw [← hw3]; exact below_box _ _
  have hI3 : IntsT w3 ⟨some ⟨w2.heap.size, 0, none⟩, 4, 4⟩ (numsC c) := by rw [← hw3]; exact four_ints (heap_alloc_new _ _)
  have hz3 : IsW w3 w1.heap.size w1.heap.size none [] := hz.turned (p := fun _ => False) (.of_below hb3) id (fun _ _ e => e)
  have hr3 := row_below hr2 hb3
  have KP := Lib.hid (VputNums w1.heap.size w1.heap.size none [] _ (numsC c) w3 hz3 (by simp) hI3 (by simp [numsC]) hin1)
  have hlt : w.heap.size < w1.heap.size := (Array.getElem?_eq_some_iff.1 hr1).1
  have Hb13 := Lib.hid (hb2.trans (hb3.mono hb2.size)); have Hb1 := Lib.hid hb1; have Hr3 := Lib.hid hr3; have Hz3 := Lib.hid hz3; have Hin1 := Lib.hid hin1; have Hin2 := Lib.hid hin2; have Hc := Lib.hid hc; have Hin := Lib.hid hin
  clear hb1 hr1 hin hin1 hin2 hz hb2 hr2 hb3 hI3 hz3 hr3 hc
  go_enter Try.func19, Try.ntmps19
  go_wp2_with fail
  refine KP.out.mono ?_
  rintro e w4 ⟨rfl, hg4⟩
  obtain ⟨r4, hw4, _, ht4⟩ := hg4
  rw [List.nil_append] at hw4
  have hr4 := ht4.heap Hr3.out (fun e => by
    rcases e with e | e
    · omega
    · cases e)
  have hld := ldPol_run (CmdAt.pol (W := w4) hr4 Hc.out.hp)
  have KN := Lib.hid (VNums c.p w4 Hc.out.hp)
  have Hw4 := Lib.hid hw4
  have hb4 : Below w1.heap.size w1 w4 := Hb13.out.trans (ht4.below (fun k e => by
    rcases e with e | e
    · omega
    · cases e) Hb13.out.size)
  have Hb4 := Lib.hid hb4
  clear hw4 ht4 hr4 hb4 c0 c1 c2 c3
  go_wp2_with fail
  refine KN.out.mono ?_
  rintro e w5 ⟨b, rfl, hbb, hI5, hb5⟩
  have hw5 : IsW w5 w1.heap.size w1.heap.size r4 (putB (numsC c)) := Hw4.out.turned (p := fun _ => False) (.of_below hb5) id (fun _ _ e => e)
  have hlen : (putB (numsC c)).length ≤ 36 := by
    have := putB_length (numsC c) Hin1.out
    simpa [numsC] using this
  have KP5 := Lib.hid (VputNums w1.heap.size w1.heap.size r4 (putB (numsC c)) _ (numsP c.p) w5 hw5 (by omega) hI5 (by simp [numsP]) Hin2.out)
  have Hw5 := Lib.hid hw5; have Hb5 := Lib.hid (Hb4.out.trans (hb5.mono Hb4.out.size))
  clear hI5 hb5 hw5 hbb hld hlen
  go_wp2_with fail
  refine KP5.out.mono ?_
  rintro e w6 ⟨rfl, hg6⟩
  obtain ⟨r6, hw6, _, ht6⟩ := hg6
  rw [← putB_append] at hw6
  have hb6 : Below w1.heap.size w1 w6 := Hb5.out.trans (ht6.below (fun k e => by
    rcases e with e | e
    · omega
    · exact (Hw5.out.lt.2 k e).1) Hb5.out.size)
  have hlen : (putB (numsC c ++ numsP c.p)).length ≤ 72 := by
    have := putB_length (numsC c ++ numsP c.p) Hin.out
    simpa [numsC, numsP] using this
  have KB := Lib.hid (WBytes_any w1.heap.size w1.heap.size r6 _ w6 hw6 (by omega))
  have Hb6 := Lib.hid (Hb1.out.trans (hb6.mono Hb1.out.size))
  clear hw6 ht6 hb6 hlen
  go_wp2_with (go_at_call 43; refine KB.out.mono ?_; rintro e w7 ⟨A7, c7, rfl, hown7, hb7⟩; have Hown7 := Lib.hid hown7; have Hb7 := Lib.hid hb7; clear hown7 hb7)
  go_ret
  exact ⟨A7, c7, rfl, own_base Hown7.out Hb6.out.size, Hb6.out.trans (Hb7.out.mono Hb6.out.size)⟩
end Go.Proofs.Ytmlbgkackemioaa
end

section
namespace Go.Proofs.Ytmlbgkackemioaa
open Go.ChangeShapes Go.WideShapes Go.ChangeAt Go.RowKit
set_option linter.unusedVariables false
set_option linter.unusedSimpArgs false

def rdM (bs : List UInt8) (e : Nat) : Nat × List UInt8 × Nat := rdNum bs e 9223372036854775807
theorem rdM_ok {bs : List UInt8} {e a : Nat} {r : List UInt8} (h : rdM bs e = (a, r, 0)) : e = 0 ∧ a < 9223372036854775808 ∧ bs = numB a ++ r := by
  unfold rdM rdNum at h
  by_cases he : e ≠ 0
  · rw [if_pos he] at h
    injection h with _ h
    injection h with _ h
    exact absurd h he
  · rw [if_neg he] at h
    obtain ⟨x, s, er, hr⟩ : ∃ x s er, numR bs = (x, s, er) := ⟨_, _, _, rfl⟩
    rw [hr] at h
    simp only at h
    by_cases h1 : er ≠ 0
    · rw [if_pos h1] at h
      injection h with _ h
      injection h with _ h
      exact absurd h h1
    · rw [if_neg h1] at h
      have h1 : er = 0 := by omega
      subst h1
      by_cases h2 : (9223372036854775807 : Int) < (x : Int)
      · rw [if_pos h2] at h
        injection h with _ h
        injection h with _ h
        cases h
      · rw [if_neg h2] at h
        have hk := numR_ok hr
        injection h with ha hr'
        injection hr' with hr' _
        subst ha; subst hr'
        exact ⟨by omega, by omega, by rw [← hk.2.2.2.2, List.take_append_drop]⟩
theorem rdM_numB {n : Nat} (h : n < 9223372036854775808) (rest : List UInt8) : rdM (numB n ++ rest) 0 = (n, rest, 0) := by
  unfold rdM rdNum
  rw [if_neg (by simp), numR_numB h]
  simp only
  rw [if_neg (by simp), if_neg (by omega), List.drop_left]
theorem rdM_most (bs : List UInt8) (e : Nat) : (rdM bs e).1 < 9223372036854775808 := by
  unfold rdM rdNum
  split
  · simp
  · split
    · simp
    · split
      · simp
      · simp only; omega
def NonN (c : Cmd) : Prop := ∀ x ∈ numsC c ++ numsP c.p, 0 ≤ x ∧ x ≤ 9223372036854775807
theorem NonN.of {a1 a2 a3 a4 a5 a6 a7 a8 : Nat} (h1 : a1 < 9223372036854775808) (h2 : a2 < 9223372036854775808) (h3 : a3 < 9223372036854775808) (h4 : a4 < 9223372036854775808) (h5 : a5 < 9223372036854775808) (h6 : a6 < 9223372036854775808) (h7 : a7 < 9223372036854775808) (h8 : a8 < 9223372036854775808) :
    NonN ⟨a1, a2, a3, a4, ⟨a5, a6, a7, a8⟩⟩ := by
  intro x hx
  simp only [numsC, numsP, List.cons_append, List.nil_append, List.mem_cons, List.not_mem_nil, or_false] at hx
  rcases hx with rfl | rfl | rfl | rfl | rfl | rfl | rfl | rfl <;> omega
theorem bytesC_eq (c : Cmd) : bytesC c = numB c.k.toNat ++ (numB c.a.toNat ++ (numB c.b.toNat ++ (numB c.c.toNat ++ (numB c.p.re.toNat ++ (numB c.p.we.toNat ++ (numB c.p.li.toNat ++ (numB c.p.bu.toNat ++ []))))))) := by
  simp [bytesC, putB, numsC, numsP]
theorem read_ok {bs : List UInt8} {a1 e1 : Nat} {b1 : List UInt8} {a2 e2 : Nat} {b2 : List UInt8} {a3 e3 : Nat} {b3 : List UInt8} {a4 e4 : Nat} {b4 : List UInt8} {a5 e5 : Nat} {b5 : List UInt8} {a6 e6 : Nat} {b6 : List UInt8} {a7 e7 : Nat} {b7 : List UInt8} {a8 e8 : Nat} {b8 : List UInt8} (h1 : rdM bs 0 = (a1, b1, e1)) (h2 : rdM b1 e1 = (a2, b2, e2)) (h3 : rdM b2 e2 = (a3, b3, e3)) (h4 : rdM b3 e3 = (a4, b4, e4)) (h5 : rdM b4 e4 = (a5, b5, e5)) (h6 : rdM b5 e5 = (a6, b6, e6)) (h7 : rdM b6 e6 = (a7, b7, e7)) (h8 : rdM b7 e7 = (a8, b8, e8)) (hz : endOf b8 e8 = 0) : NonN ⟨a1, a2, a3, a4, ⟨a5, a6, a7, a8⟩⟩ ∧ bytesC ⟨a1, a2, a3, a4, ⟨a5, a6, a7, a8⟩⟩ = bs := by
  unfold endOf at hz
  split at hz
  · cases hz
  rename_i h0
  subst hz
  have hr : b8 = [] := by
    refine List.length_eq_zero_iff.1 ?_
    have := fun hh => h0 ⟨rfl, hh⟩
    omega
  subst hr
  obtain ⟨k8, l8, m8⟩ := rdM_ok h8
  subst k8
  obtain ⟨k7, l7, m7⟩ := rdM_ok h7
  subst k7
  obtain ⟨k6, l6, m6⟩ := rdM_ok h6
  subst k6
  obtain ⟨k5, l5, m5⟩ := rdM_ok h5
  subst k5
  obtain ⟨k4, l4, m4⟩ := rdM_ok h4
  subst k4
  obtain ⟨k3, l3, m3⟩ := rdM_ok h3
  subst k3
  obtain ⟨k2, l2, m2⟩ := rdM_ok h2
  subst k2
  obtain ⟨k1, l1, m1⟩ := rdM_ok h1
  refine ⟨NonN.of l1 l2 l3 l4 l5 l6 l7 l8, ?_⟩
  rw [bytesC_eq, m1, m2, m3, m4, m5, m6, m7, m8]
  rfl
theorem read_of {bs : List UInt8} {a1 e1 : Nat} {b1 : List UInt8} {a2 e2 : Nat} {b2 : List UInt8} {a3 e3 : Nat} {b3 : List UInt8} {a4 e4 : Nat} {b4 : List UInt8} {a5 e5 : Nat} {b5 : List UInt8} {a6 e6 : Nat} {b6 : List UInt8} {a7 e7 : Nat} {b7 : List UInt8} {a8 e8 : Nat} {b8 : List UInt8} (h1 : rdM bs 0 = (a1, b1, e1)) (h2 : rdM b1 e1 = (a2, b2, e2)) (h3 : rdM b2 e2 = (a3, b3, e3)) (h4 : rdM b3 e3 = (a4, b4, e4)) (h5 : rdM b4 e4 = (a5, b5, e5)) (h6 : rdM b5 e5 = (a6, b6, e6)) (h7 : rdM b6 e6 = (a7, b7, e7)) (h8 : rdM b7 e7 = (a8, b8, e8)) {c : Cmd} (hn : NonN c) (hb : bytesC c = bs) : endOf b8 e8 = 0 ∧ c = ⟨a1, a2, a3, a4, ⟨a5, a6, a7, a8⟩⟩ := by
  rw [bytesC_eq] at hb
  subst hb
  have n1 := hn c.k (by simp [numsC, numsP])
  rw [rdM_numB (by omega)] at h1
  injection h1 with x1 h1
  injection h1 with y1 z1
  subst y1; subst z1
  have n2 := hn c.a (by simp [numsC, numsP])
  rw [rdM_numB (by omega)] at h2
  injection h2 with x2 h2
  injection h2 with y2 z2
  subst y2; subst z2
  have n3 := hn c.b (by simp [numsC, numsP])
  rw [rdM_numB (by omega)] at h3
  injection h3 with x3 h3
  injection h3 with y3 z3
  subst y3; subst z3
  have n4 := hn c.c (by simp [numsC, numsP])
  rw [rdM_numB (by omega)] at h4
  injection h4 with x4 h4
  injection h4 with y4 z4
  subst y4; subst z4
  have n5 := hn c.p.re (by simp [numsC, numsP])
  rw [rdM_numB (by omega)] at h5
  injection h5 with x5 h5
  injection h5 with y5 z5
  subst y5; subst z5
  have n6 := hn c.p.we (by simp [numsC, numsP])
  rw [rdM_numB (by omega)] at h6
  injection h6 with x6 h6
  injection h6 with y6 z6
  subst y6; subst z6
  have n7 := hn c.p.li (by simp [numsC, numsP])
  rw [rdM_numB (by omega)] at h7
  injection h7 with x7 h7
  injection h7 with y7 z7
  subst y7; subst z7
  have n8 := hn c.p.bu (by simp [numsC, numsP])
  rw [rdM_numB (by omega)] at h8
  injection h8 with x8 h8
  injection h8 with y8 z8
  subst y8; subst z8
  refine ⟨rfl, ?_⟩
  obtain ⟨k, a, b, c, ⟨re, we, li, bu⟩⟩ := c
  simp only at n1 n2 n3 n4 n5 n6 n7 n8 x1 x2 x3 x4 x5 x6 x7 x8
  have e1 : k = (a1 : Int) := by omega
  have e2 : a = (a2 : Int) := by omega
  have e3 : b = (a3 : Int) := by omega
  have e4 : c = (a4 : Int) := by omega
  have e5 : re = (a5 : Int) := by omega
  have e6 : we = (a6 : Int) := by omega
  have e7 : li = (a7 : Int) := by omega
  have e8 : bu = (a8 : Int) := by omega
  rw [e1, e2, e3, e4, e5, e6, e7, e8]
theorem Vnum (g e a e' : Nat) (bs b' : List UInt8) (w : World) (h : IsR w g bs e) (hr : rdM bs e = (a, b', e')) :
    Calls Try.prog 38 #[.pointer (some ⟨g, 0, none⟩)] w fun en w' => en = .returned (.int .i64 (a : Int)) ∧ IsR w' g b' e' ∧ Turned (fun k => k = g) w w' := by
  have KN := RNum_any g e bs 9223372036854775807 w h (by omega) (by omega)
  have hr' : rdNum bs e 9223372036854775807 = (a, b', e') := hr
  rw [hr'] at KN
  have KN' := Lib.hid KN
  clear KN hr hr' h
  go_enter Try.func38, Try.ntmps38
  go_wp2_with (go_at_call 64; refine KN'.out.mono ?_; rintro en w1 ⟨rfl, hi, ht⟩; have Hi := Lib.hid hi; have Ht := Lib.hid ht; clear hi ht)
  go_ret
  exact ⟨rfl, Hi.out, Ht.out⟩
attribute [local go_sem ↓] stPol_eq
set_option maxRecDepth 100000 in
set_option maxHeartbeats 2000000 in
theorem VreadPolicy (g e a1 e1 a2 e2 a3 e3 a4 e4 : Nat) (bs b1 b2 b3 b4 : List UInt8) (w : World) (h : IsR w g bs e) (h1 : rdM bs e = (a1, b1, e1)) (h2 : rdM b1 e1 = (a2, b2, e2)) (h3 : rdM b2 e2 = (a3, b3, e3)) (h4 : rdM b3 e3 = (a4, b4, e4)) :
    Calls Try.prog 39 #[.pointer (some ⟨g, 0, none⟩)] w fun en w' => en = .returned (.agg #[.int .i64 (a1 : Int), .int .i64 (a2 : Int), .int .i64 (a3 : Int), .int .i64 (a4 : Int)]) ∧ IsR w' g b4 e4 ∧ Turned (fun k => k = g) w w' := by
  obtain ⟨w1, hw1⟩ : ∃ w1, w.alloc (.cells #[.int .i64 0, .int .i64 0, .int .i64 0, .int .i64 0] 29) = w1 := ⟨_, rfl⟩
  have hb1 : Below w.heap.size w w1 := by rw [← hw1]; exact below_box _ _
  have hr1 : w1.heap[w.heap.size]? = some (.cells #[.int .i64 0, .int .i64 0, .int .i64 0, .int .i64 0] 29 (0, 0)) := by rw [← hw1]; exact heap_alloc_new _ _
  have hgl := h.lt
  have K1 := Lib.hid (Vnum g e a1 e1 bs b1 w1 (h.below hb1) h1)
  have Hb1 := Lib.hid hb1; have Hr1 := Lib.hid hr1; have H2 := Lib.hid h2; have H3 := Lib.hid h3; have H4 := Lib.hid h4
  clear h h1 h2 h3 h4 hb1 hr1
  go_enter Try.func39, Try.ntmps39
  go_wp2_with fail
  refine K1.out.mono ?_
  rintro en w2 ⟨rfl, hi2, ht2⟩
  have K2 := Lib.hid (Vnum g e1 a2 e2 b1 b2 w2 hi2 H2.out)
  have Ht2 := Lib.hid ht2
  clear hi2 ht2
  go_wp2_with fail
  refine K2.out.mono ?_
  rintro en w3 ⟨rfl, hi3, ht3⟩
  have K3 := Lib.hid (Vnum g e2 a3 e3 b2 b3 w3 hi3 H3.out)
  have Ht3 := Lib.hid (Ht2.out.trans ht3 (fun _ e => e) (fun _ _ e => e) (r := fun k => k = g))
  clear hi3 ht3
  go_wp2_with fail
  refine K3.out.mono ?_
  rintro en w4 ⟨rfl, hi4, ht4⟩
  have K4 := Lib.hid (Vnum g e3 a4 e4 b3 b4 w4 hi4 H4.out)
  have Ht4 := Lib.hid (Ht3.out.trans ht4 (fun _ e => e) (fun _ _ e => e) (r := fun k => k = g))
  clear hi4 ht4
  go_wp2_with fail
  refine K4.out.mono ?_
  rintro en w5 ⟨rfl, hi5, ht5⟩
  have t5 := Ht4.out.trans ht5 (fun _ e => e) (fun _ _ e => e) (r := fun k => k = g)
  obtain ⟨w6, hst, hr6, ht6⟩ := stPol_run (t5.heap Hr1.out (by omega)) rfl ⟨a1, a2, a3, a4⟩
  simp only at hst hr6
  have Hi6 := Lib.hid (hi5.far ht6 (fun k hk => by omega))
  have Ht6 := Lib.hid (((Turned.of_below (p := fun k => k = g) Hb1.out).trans t5 (fun _ e => e) (fun _ _ e => e) (r := fun k => k = g)).trans ht6 (fun _ e => e) (fun k hk e => by omega) (r := fun k => k = g))
  have Hr6 := Lib.hid hr6
  clear hi5 ht5 t5 hr6 ht6
  go_wp2
  refine bodyPost_ret (results_cell_row rfl _ _ w.heap.size 29 _ (0, 0) _ rfl Hr6.out Try.underlying29 rfl pol_info) rfl ⟨rfl, Hi6.out, Ht6.out⟩
/-! ### Read -/
def cmd0 : Cmd := ⟨0, 0, 0, 0, pol0⟩
def ReadRet (bs : List UInt8) (w : World) (e : Ending) (w' : World) : Prop :=
  ((∃ c : Cmd, NonN c ∧ bytesC c = bs ∧ e = .returned (.tuple #[cmdA c, .bool true])) ∨ ((∀ c, NonN c → bytesC c ≠ bs) ∧ e = .returned (.tuple #[cmdA cmd0, .bool false]))) ∧ Below w.heap.size w w'
def stCmd (p v : Value) : Sem Unit := Instr.storeAt 36 p v
theorem stCmd_eq (p v : Value) : Instr.storeAt 36 p v = stCmd p v := rfl
def cmdR (c : Cmd) : Array Value := #[.int .i64 c.k, .int .i64 c.a, .int .i64 c.b, .int .i64 c.c, .int .i64 c.p.re, .int .i64 c.p.we, .int .i64 c.p.li, .int .i64 c.p.bu]
theorem stCmd_run {w : World} {g : Nat} {cs : Array Value} {T : TypeId} (h : w.heap[g]? = some (.cells cs T (0, 0))) (hs : cs.size = 8) (c : Cmd) :
    ∃ w', (stCmd (.pointer (some ⟨g, 0, none⟩)) (cmdA c)).run Try.prog w = .ok () w' ∧ w'.heap[g]? = some (.cells (cmdR c) T (0, 0)) ∧ Turned (fun k => k = g) w w' :=
  st_row (T := 36) h (by rw [hs]; rfl) cmd_info (by simp [Value.oneCell'])
theorem bdC_run (w : World) (k a b c re we li bu : Int) : (bdCmd #[(0, .int .i64 k), (1, .int .i64 a), (2, .int .i64 b), (3, .int .i64 c), (4, .agg #[.int .i64 re, .int .i64 we, .int .i64 li, .int .i64 bu])]).run Try.prog w = .ok (cmdA ⟨k, a, b, c, ⟨re, we, li, bu⟩⟩) w := by kernel_rfl
theorem bdC_run0 (w : World) : (bdCmd #[]).run Try.prog w = .ok (cmdA cmd0) w := by kernel_rfl
attribute [local go_sem ↓] stCmd_eq
attribute [local go_sem ↓] ldCmd_eq
attribute [local go_sem ↓] bdCmd_eq
set_option maxRecDepth 100000 in
set_option maxHeartbeats 4000000 in
theorem VRead (A : Option Addr) (n c : Nat) (bs : List UInt8) (w : World) (hn : bs.length = n) (hl : n ≤ 1000000) (hs : Seen w A (bytesV bs)) :
    Calls Try.prog 18 #[.slice A n c] w (ReadRet bs w) := by
  obtain ⟨a1, b1, e1, h1⟩ : ∃ a b e, rdM bs 0 = (a, b, e) := ⟨_, _, _, rfl⟩
  obtain ⟨a2, b2, e2, h2⟩ : ∃ a b e, rdM b1 e1 = (a, b, e) := ⟨_, _, _, rfl⟩
  obtain ⟨a3, b3, e3, h3⟩ : ∃ a b e, rdM b2 e2 = (a, b, e) := ⟨_, _, _, rfl⟩
  obtain ⟨a4, b4, e4, h4⟩ : ∃ a b e, rdM b3 e3 = (a, b, e) := ⟨_, _, _, rfl⟩
  obtain ⟨a5, b5, e5, h5⟩ : ∃ a b e, rdM b4 e4 = (a, b, e) := ⟨_, _, _, rfl⟩
  obtain ⟨a6, b6, e6, h6⟩ : ∃ a b e, rdM b5 e5 = (a, b, e) := ⟨_, _, _, rfl⟩
  obtain ⟨a7, b7, e7, h7⟩ : ∃ a b e, rdM b6 e6 = (a, b, e) := ⟨_, _, _, rfl⟩
  obtain ⟨a8, b8, e8, h8⟩ : ∃ a b e, rdM b7 e7 = (a, b, e) := ⟨_, _, _, rfl⟩
  obtain ⟨z, hz⟩ : ∃ z, endOf b8 e8 = z := ⟨_, rfl⟩
  have hok := fun h => read_ok h1 h2 h3 h4 h5 h6 h7 h8 (hz.trans h)
  have hno : ∀ c, NonN c → bytesC c = bs → z = 0 := fun c h k => hz.symm.trans (read_of h1 h2 h3 h4 h5 h6 h7 h8 h k).1
  have hbd := fun W => bdC_run W a1 a2 a3 a4 a5 a6 a7 a8
  have hbd0 := bdC_run0
  obtain ⟨w1, hw1, hb1, hr1⟩ : ∃ w1, w.alloc (.cells #[.int .i64 0, .int .i64 0, .int .i64 0, .int .i64 0, .int .i64 0, .int .i64 0, .int .i64 0, .int .i64 0] 36) = w1 ∧ Below w.heap.size w w1 ∧ w1.heap[w.heap.size]? = some (.cells #[.int .i64 0, .int .i64 0, .int .i64 0, .int .i64 0, .int .i64 0, .int .i64 0, .int .i64 0, .int .i64 0] 36 (0, 0)) := ⟨_, rfl, below_box _ _, heap_alloc_new _ _⟩
  have KR := Lib.hid (NewR_any A n c bs w1 hn hl (hs.below hb1))
  have hlt : w.heap.size < w1.heap.size := (Array.getElem?_eq_some_iff.1 hr1).1
  have Hok := Lib.hid hok; have Hno := Lib.hid hno; have Hz := Lib.hid hz
  have Hb1 := Lib.hid hb1; have Hr1 := Lib.hid hr1
  have H1 := Lib.hid h1; have H2 := Lib.hid h2; have H3 := Lib.hid h3; have H4 := Lib.hid h4; have H5 := Lib.hid h5; have H6 := Lib.hid h6; have H7 := Lib.hid h7; have H8 := Lib.hid h8
  clear hok hno hz hb1 hr1 hn hs h1 h2 h3 h4 h5 h6 h7 h8
  go_enter Try.func18, Try.ntmps18
  go_wp2_with fail
  refine KR.out.mono ?_
  rintro en w2 ⟨g, rfl, hg, hi2, hb2⟩
  have hr2 := row_below Hr1.out hb2
  have hgl := hi2.lt
  have T2 := Lib.hid (Turned.refl (fun k => k = g) w2)
  have Hb2 := Lib.hid (Hb1.out.trans (hb2.mono Hb1.out.size)); have Hr2 := Lib.hid hr2
  have K1 := Lib.hid (Vnum g 0 a1 e1 bs b1 w2 hi2 H1.out)
  clear hi2 hb2 hr2
  go_wp2_with fail
  refine K1.out.mono ?_
  rintro en w3 ⟨rfl, hi3, ht3⟩
  have T3 := Lib.hid (T2.out.trans ht3 (fun _ e => e) (fun _ _ e => e) (r := fun k => k = g))
  have K2 := Lib.hid (Vnum g e1 a2 e2 b1 b2 w3 hi3 H2.out)
  clear hi3 ht3
  go_wp2_with fail
  refine K2.out.mono ?_
  rintro en w4 ⟨rfl, hi4, ht4⟩
  have T4 := Lib.hid (T3.out.trans ht4 (fun _ e => e) (fun _ _ e => e) (r := fun k => k = g))
  have K3 := Lib.hid (Vnum g e2 a3 e3 b2 b3 w4 hi4 H3.out)
  clear hi4 ht4
  go_wp2_with fail
  refine K3.out.mono ?_
  rintro en w5 ⟨rfl, hi5, ht5⟩
  have T5 := Lib.hid (T4.out.trans ht5 (fun _ e => e) (fun _ _ e => e) (r := fun k => k = g))
  have K4 := Lib.hid (Vnum g e3 a4 e4 b3 b4 w5 hi5 H4.out)
  clear hi5 ht5
  go_wp2_with fail
  refine K4.out.mono ?_
  rintro en w6 ⟨rfl, hi6, ht6⟩
  have T6 := Lib.hid (T5.out.trans ht6 (fun _ e => e) (fun _ _ e => e) (r := fun k => k = g))
  have K5 := Lib.hid (VreadPolicy g e4 a5 e5 a6 e6 a7 e7 a8 e8 b4 b5 b6 b7 b8 w6 hi6 H5.out H6.out H7.out H8.out)
  clear hi6 ht6
  go_wp2_with fail
  refine K5.out.mono ?_
  rintro en w7 ⟨rfl, hi7, ht7⟩
  have t7 := T6.out.trans ht7 (fun _ e => e) (fun _ _ e => e) (r := fun k => k = g)
  obtain ⟨w8, hw8⟩ : ∃ w8, w7.alloc (.cells #[.int .i64 0, .int .i64 0, .int .i64 0, .int .i64 0, .int .i64 0, .int .i64 0, .int .i64 0, .int .i64 0] 36) = w8 := ⟨_, rfl⟩
  have hb8 : Below w7.heap.size w7 w8 := by rw [← hw8]; exact below_box _ _
  have hr8 : w8.heap[w7.heap.size]? = some (.cells #[.int .i64 0, .int .i64 0, .int .i64 0, .int .i64 0, .int .i64 0, .int .i64 0, .int .i64 0, .int .i64 0] 36 (0, 0)) := by rw [← hw8]; exact heap_alloc_new _ _
  obtain ⟨w9, hst9, hr9, ht9⟩ := stCmd_run hr8 rfl ⟨a1, a2, a3, a4, ⟨a5, a6, a7, a8⟩⟩
  have hg7 : g < w7.heap.size := hi7.lt
  have hi9 := (hi7.below hb8).far ht9 (fun k hk => by omega)
  have hb9 : Below w.heap.size w w9 := ((Hb2.out.trans (t7.below (fun k e => by omega) Hb2.out.size)).trans (hb8.mono (by have := t7.size; have := Hb2.out.size; omega))).trans (ht9.below (fun k e => by have := t7.size; have := Hb2.out.size; omega) (by have := t7.size; have := Hb2.out.size; have := hb8.size; omega))
  have hbx : w9.heap[w.heap.size]? = some (.cells #[.int .i64 0, .int .i64 0, .int .i64 0, .int .i64 0, .int .i64 0, .int .i64 0, .int .i64 0, .int .i64 0] 36 (0, 0)) :=
    ht9.heap (row_below (t7.heap Hr2.out (by omega)) hb8) (by have := t7.size; have := Hb2.out.size; have := (Array.getElem?_eq_some_iff.1 Hr2.out).1; omega)
  have hld := ldCmd_run hr9
  obtain ⟨wy, hsty, hry, hty⟩ := stCmd_run hbx rfl ⟨a1, a2, a3, a4, ⟨a5, a6, a7, a8⟩⟩
  obtain ⟨wn, hstn, hrn, htn⟩ := stCmd_run hbx rfl cmd0
  have KE0 := End_any g e8 b8 w9 hi9
  rw [Hz.out] at KE0
  have KE := Lib.hid KE0
  have Hb9 := Lib.hid hb9; have Hry := Lib.hid hry; have Hrn := Lib.hid hrn; have Hty := Lib.hid hty; have Htn := Lib.hid htn
  clear KE0 hb9 hry hrn hty htn hi9 hr9 ht9 hr8 hb8 hi7 ht7 t7 hbx
  by_cases hz0 : z = 0
  · subst hz0
    have Hyes := Lib.hid (Hok.out rfl)
    go_wp2_with (go_at_call 40; refine KE.out.mono ?_; rintro e w' ⟨rfl, rfl⟩)
    refine bodyPost_ret (v := .tuple #[cmdA ⟨a1, a2, a3, a4, ⟨a5, a6, a7, a8⟩⟩, .bool true]) (results_cell_2 rfl _ _ w.heap.size 36 (cmdR ⟨a1, a2, a3, a4, ⟨a5, a6, a7, a8⟩⟩) (0, 0) _ (.bool true) rfl rfl Hry.out Try.underlying36 rfl cmd_info) rfl ?_
    exact ⟨.inl ⟨_, Hyes.out.1, Hyes.out.2, rfl⟩, Hb9.out.trans (Hty.out.below (fun k e => by omega) Hb9.out.size)⟩
  · have hz1 : ((z : Int) != 0) = true := by simp; omega
    have Hz0 := Lib.hid hz0
    clear hz0
    go_wp2_with (go_at_call 40; refine KE.out.mono ?_; rintro e w' ⟨rfl, rfl⟩)
    refine bodyPost_ret (v := .tuple #[cmdA cmd0, .bool false]) (results_cell_2 rfl _ _ w.heap.size 36 (cmdR cmd0) (0, 0) _ (.bool false) rfl rfl Hrn.out Try.underlying36 rfl cmd_info) rfl ?_
    exact ⟨.inr ⟨fun c h k => Hz0.out (Hno.out c h k), rfl⟩, Hb9.out.trans (Htn.out.below (fun k e => by omega) Hb9.out.size)⟩
end Go.Proofs.Ytmlbgkackemioaa
end
