/-
  Contracts of journal.Open over any device whose power is on, with any fuse; of Scan and Open without power.
-/
import Derived.Test.YtjekcaoonaniaaaGreatJouWipe
namespace Go.Proofs.YtjekcaoonaniaaaGreat
open Go.ChangeShapes Go.WideShapes Go.ChangeAt Go.RowKit
set_option linter.unusedVariables false

theorem TextsAt.turned {p : Nat → Prop} {w0 w w' : World} {A : Option Addr} {n c : Nat} {ts : List (List UInt8)} (h : TextsAt w0 A n c ts w) (ht : Turned p w w') (hp : ∀ k, w0.heap.size ≤ k → ¬ p k) : TextsAt w0 A n c ts w' := by
  obtain ⟨h1, ls, h2, h3, h4, h5⟩ := h
  refine ⟨h1, ls, ht.own h2 (fun k hk => hp k (h2.lt k hk).1), h3.keep fun i A1 n1 c1 hi b hs => ht.seen hs fun g o e => hp g (h4 i A1 n1 c1 hi g o e), h4, fun i A1 n1 c1 hi g o e => ⟨Nat.lt_of_lt_of_le (h5 i A1 n1 c1 hi g o e).1 ht.size, (h5 i A1 n1 c1 hi g o e).2⟩⟩
theorem TextsAt.len {w0 w : World} {A : Option Addr} {n c : Nat} {ts : List (List UInt8)} (h : TextsAt w0 A n c ts w) : ts.length = n := h.1

/-- a journal as Open makes it -/
def Jn.opened (d : Dv) (gen a m : Nat) (ts : List (List UInt8)) : Jn := { d := d, gen := gen, k := ts.length, next := a + secsUp gen 0 ts, fin := a + m, L := [], dead := false }
/-- what Open hands back -/
def OpenRetJ (B g s : Nat) (r : Option Nat) (d : Dv) (a m gen : Nat) (w : World) (en : Ending) (w' : World) : Prop :=
  ∃ ts, Scanned gen (d.part a m) ts ∧ secsUp gen 0 ts ≤ m ∧
    (((d.wiped (a + secsUp gen 0 ts) (m - secsUp gen 0 ts) false).1 ≠ 0 ∧ en = .returned (.tuple #[.pointer none, .slice none 0 0, .int .i64 ((d.wiped (a + secsUp gen 0 ts) (m - secsUp gen 0 ts) false).1 : Int)]) ∧
        MovedD B g s r (d.wiped (a + secsUp gen 0 ts) (m - secsUp gen 0 ts) false).2 w w') ∨
     ((d.wiped (a + secsUp gen 0 ts) (m - secsUp gen 0 ts) false).1 = 0 ∧ ∃ jg A n c r', en = .returned (.tuple #[.pointer (some ⟨jg, 0, none⟩), .slice A n c, .int .i64 0]) ∧ w.heap.size ≤ jg ∧
        IsJ w' B g s r' jg none (Jn.opened (d.wiped (a + secsUp gen 0 ts) (m - secsUp gen 0 ts) false).2 gen a m ts) ∧ (∀ k, r' = some k → r = some k ∨ w.heap.size ≤ k) ∧ Turned (fun k => k = g ∨ k = s ∨ r = some k) w w' ∧ TextsAt w A n c ts w'))

set_option maxRecDepth 100000 in
theorem Scan_down (B g s : Nat) (r : Option Nat) (d : Dv) (a m gen : Nat) (w : World) (h : IsD w B g s r d) (hd : d.down = true) (ham : a + m ≤ d.n) (hg : gen ≤ 1099511627776) :
    Calls Tryz.prog 34 #[.pointer (some ⟨g, 0, none⟩), .int .i64 (a : Int), .int .i64 (m : Int), .int .i64 (gen : Int)] w fun e w' => e = .returned (.tuple #[.slice none 0 0, .int .i64 0, .int .i64 17]) ∧ w = w' := by
  have H := Lib.hid h; clear h
  have hn := H.out.1.n
  have hw : withinB d.n a m = true := decide_eq_true (by omega)
  have hc : decide ((0 : Int) ≤ gen ∧ (gen : Int) ≤ 1099511627776) = true := decide_eq_true (by omega)
  have Hw := Lib.hid hw; have Hc := Lib.hid hc; have Hd := Lib.hid hd
  clear hw hc hd
  go_enter Tryz.func34, Tryz.ntmps34
  go_wp2
  go_step3
  go_wp2_with (first
    | (go_at_call 53; refine (within_any B g s r d a m w H.out (by omega) (by omega) (by omega) (by omega)).mono ?_; rw [Hw.out]; rintro e w1 ⟨rfl, rfl⟩)
    | (go_at_call 54; refine (counts_any gen w (by omega) (by omega)).mono ?_; rw [Hc.out]; rintro e w1 ⟨rfl, rfl⟩)
    | (go_at_call 55; refine (Down_any B g s r d w H.out).mono ?_; rw [Hd.out]; rintro e w1 ⟨rfl, rfl⟩))
  simp only [Exit.noGoto]
  go_ret3
  exact ⟨rfl, rfl⟩

set_option maxRecDepth 100000 in
set_option maxHeartbeats 2000000 in
theorem Open_down (B g s : Nat) (r : Option Nat) (d : Dv) (a m gen : Nat) (w : World) (h : IsD w B g s r d) (hd : d.down = true) (ham : a + m ≤ d.n) (hg : gen ≤ 1099511627776) :
    Calls Tryz.prog 64 #[.pointer (some ⟨g, 0, none⟩), .int .i64 (a : Int), .int .i64 (m : Int), .int .i64 (gen : Int)] w fun e w' => e = .returned (.tuple #[.pointer none, .slice none 0 0, .int .i64 17]) ∧ w = w' := by
  have Hs := Lib.hid (Scan_down B g s r d a m gen w h hd ham hg)
  clear h hd
  go_enter Tryz.func64, Tryz.ntmps64
  go_wp2_with (go_at_call 34; refine Hs.out.mono ?_; rintro e w1 ⟨rfl, rfl⟩)
  go_ret3
  exact ⟨rfl, rfl⟩

set_option maxRecDepth 100000 in
set_option maxHeartbeats 4000000 in
theorem JOpen_any (B g s : Nat) (r : Option Nat) (d : Dv) (a m gen : Nat) (w : World) (h : IsD w B g s r d) (hL : d.L.length ≤ 800000) (hd : d.down = false) (ham : a + m ≤ d.n) (hg : gen ≤ 1099511627776) :
    Calls Tryz.prog 64 #[.pointer (some ⟨g, 0, none⟩), .int .i64 (a : Int), .int .i64 (m : Int), .int .i64 (gen : Int)] w (OpenRetJ B g s r d a m gen w) := by
  have H := Lib.hid h
  have hn := h.1.n
  have hlt := h.lt
  have Hlt := Lib.hid hlt
  have hpl := part_length h.1 ham
  have Hsc := Lib.hid (Scan_any B g s r d a m gen w h (by omega) hd ham hg)
  clear h hlt
  go_enter Tryz.func64, Tryz.ntmps64
  go_wp2_with fail
  refine Hsc.out.mono ?_
  rintro e w1 ⟨hb1, ts, A, n, c, rfl, hs, ht⟩
  have hu : secsUp gen 0 ts ≤ m := by have := hs.1.le; rw [hpl] at this; omega
  have hnts : n ≤ secsUp gen 0 ts := by have := secsUp_ge gen 0 ts; have := ht.1; omega
  have Hs := Lib.hid hs; have Ht := Lib.hid ht; have Hb1 := Lib.hid hb1
  have Hd1 := Lib.hid (H.out.below hb1)
  obtain ⟨u, hu'⟩ : ∃ u, secsUp gen 0 ts = u := ⟨_, rfl⟩
  have Hret := Lib.hid (show ∀ en w', (((d.wiped (a + u) (m - u) false).1 ≠ 0 ∧ en = .returned (.tuple #[.pointer none, .slice none 0 0, .int .i64 ((d.wiped (a + u) (m - u) false).1 : Int)]) ∧ MovedD B g s r (d.wiped (a + u) (m - u) false).2 w w') ∨
     ((d.wiped (a + u) (m - u) false).1 = 0 ∧ ∃ jg A n c r', en = .returned (.tuple #[.pointer (some ⟨jg, 0, none⟩), .slice A n c, .int .i64 0]) ∧ w.heap.size ≤ jg ∧
        IsJ w' B g s r' jg none { d := (d.wiped (a + u) (m - u) false).2, gen := gen, k := n, next := a + u, fin := a + m, L := [], dead := false } ∧ (∀ k, r' = some k → r = some k ∨ w.heap.size ≤ k) ∧ Turned (fun k => k = g ∨ k = s ∨ r = some k) w w' ∧ TextsAt w A n c ts w')) → OpenRetJ B g s r d a m gen w en w' from fun en w' h => by
    refine ⟨ts, hs, hu, ?_⟩
    rw [hu']
    rcases h with h | ⟨h0, jg, A', n', c', r', h1, h2, h3, h4, h5, h6⟩
    · exact .inl h
    · refine .inr ⟨h0, jg, A', n', c', r', h1, h2, ?_, h4, h5, h6⟩
      unfold Jn.opened
      rw [hu', ht.1]
      have hnn : n' = n := h6.1.symm.trans ht.1
      subst hnn
      exact h3)
  have Hwn := Lib.hid (wiped_n (m - u) d (a + u) false)
  obtain ⟨x, d', hwd⟩ : ∃ x d', d.wiped (a + u) (m - u) false = (x, d') := ⟨_, _, rfl⟩
  have hx16 := wiped_e (m - u) d (a + u) false
  have hwipe := wipe_any B g s r d (a + u) (a + m) w1 Hd1.out hL hd (by omega) ham
  rw [show a + m - (a + u) = m - u by omega, hwd] at hwipe
  rw [hwd] at Hret Hwn hx16
  rw [show ((a + u : Nat) : Int) = (a : Int) + (u : Int) by omega, show ((a + m : Nat) : Int) = (a : Int) + (m : Int) by omega] at hwipe
  have Hwipe := Lib.hid hwipe
  rw [hu']
  have hum : u ≤ m := by omega
  have hnu : n ≤ u := by omega
  clear hwipe hwd hu' hu hnts hs ht hb1 hpl hd
  by_cases hx : x = 0
  · subst hx
    go_wp2_with (go_at_call 82; refine Hwipe.out.mono ?_; rintro e w2 ⟨rfl, r2, hd2, hr2, ht2⟩; have Hd2 := Lib.hid hd2; have Hr2 := Lib.hid hr2; have Ht2 := Lib.hid ht2; clear hd2 hr2 ht2)
    go_ret3
    refine Hret.out _ _ (.inr ⟨trivial, w2.heap.size, A, n, c, r2, rfl, ?_, ?_, fun k e => ?_, ?_, ?_⟩)
    · have := Hb1.out.size; have := Ht2.out.size; omega
    · have hal := (Below.refl w2.heap.size w2).alloc (Nat.le_refl _) (.cells #[.pointer (some ⟨g, 0, none⟩), .int .i64 (gen : Int), .int .i64 (n : Int), .int .i64 ((a : Int) + (u : Int)), .int .i64 ((a : Int) + (m : Int)), .slice none 0 0, .bool false] 115)
      have hl := Hd2.out.lt
      refine ⟨⟨Hd2.out.1, hg, by show n ≤ _; omega, by show a + u ≤ a + m; omega, by show a + m ≤ d'.n; rw [Hwn.out]; exact ham, fun p hp => (by cases hp), Nat.zero_le _⟩, Hd2.out.below hal, by omega, by omega, by omega, fun e => ?_, by simp, by simp, by simp, fun k e => (by cases e), none, 0, ?_, World.ownsRow_nil _ _ _ _, rfl⟩
      · have := (hl.2.2.2.2 _ e).2; omega
      · exact heap_alloc_new _ _
    · rcases Hr2.out k e with e | e
      · exact .inl e
      · exact .inr (Nat.le_trans Hb1.out.size e)
    · refine ((Turned.of_below (p := fun k => k = g ∨ k = s ∨ r = some k) Hb1.out).trans Ht2.out (fun _ e => e) (fun _ _ e => e)).alloc _
    · have hl := Hlt.out
      refine (Ht.out.turned Ht2.out fun k hk => ?_).below ((Below.refl w2.heap.size w2).alloc (Nat.le_refl _) _)
      rintro (e | e | e)
      · omega
      · omega
      · have := (hl.2.2.2.2 k e).2; omega
  · have hxi : ((x : Int) != 0) = true := by simp; omega
    go_wp2_with (go_at_call 82; refine Hwipe.out.mono ?_; rintro e w2 ⟨rfl, hmv⟩; have Hm2 := Lib.hid hmv; clear hmv)
    go_ret3
    exact Hret.out _ _ (.inl ⟨hx, rfl, MovedD.step (d := d') (fun k e => .inl e) (Turned.of_below Hb1.out) Hm2.out⟩)
end Go.Proofs.YtjekcaoonaniaaaGreat
