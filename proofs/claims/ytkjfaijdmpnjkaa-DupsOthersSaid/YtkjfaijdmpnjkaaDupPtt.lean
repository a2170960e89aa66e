/-
  Contract of Put of the table. Conditions: what each names.
-/
import Derived.Test.YtkjfaijdmpnjkaaDupPut
namespace Go.Proofs.Ytkjfaijdmpnjkaa
open Go.ChangeShapes Go.WideShapes Go.ChangeAt Go.RowKit Go.Maps
set_option linter.unusedVariables false

theorem int_eq {a b : Int} (h : a = b) : Ending.returned (.int .i64 a) = Ending.returned (.int .i64 b) := by rw [h]
/-- what Put hands back -/
def PutRet (g : Nat) (x : List Lst) (c n e : Int) (w : World) (en : Ending) (w' : World) : Prop :=
  en = .returned (.int .i64 (putA x c n e)) ∧ (∃ m', TabAt w' g m' (putX x c n e)) ∧ Turned (fun k => k = g) w w'
theorem PutRet.no {g : Nat} {m : Option Nat} {x : List Lst} {c n e a : Int} {w w' : World} {en : Ending} (he : en = .returned (.int .i64 a)) (ha : putA x c n e = a) (h0 : a ≠ 0) (H : TabAt w g m x) (hb : Below w.heap.size w w') : PutRet g x c n e w en w' := by
  refine ⟨by rw [he, ha], ⟨m, ?_⟩, .of_below hb⟩
  unfold putX
  rw [ha, if_neg h0]
  exact H.below hb
/-- what stands ahead of the tests -/
theorem put_start {g : Nat} {m : Option Nat} {x : List Lst} {c : Int} {w : World} (H : TabAt w g m x) (h1 : -9223372036854775808 ≤ c) (h2 : c ≤ 9223372036854775807) :
    ∃ W1, w.alloc (.cells #[.int .i64 (lastOf x c).1, .int .i64 (lastOf x c).2] 54) = W1 ∧ Below w.heap.size w W1 ∧ W1.cell? ⟨w.heap.size, 0, none⟩ = some (.int .i64 (lastOf x c).1) ∧ TabAt W1 g m x ∧ W1.cell? ⟨g, 0, none⟩ = some (.map m) ∧ w.cell? ⟨g, 0, none⟩ = some (.map m) ∧ W1.frozen? ⟨g, 0, none⟩ = false :=
  ⟨_, rfl, below_alloc _ _, (new_ls _ _ _).1, H.below (below_alloc _ _), row_cell (H.below (below_alloc _ _)).1 0, row_cell H.1 0, row_frozen (H.below (below_alloc _ _)).1 0⟩

set_option maxRecDepth 100000 in
set_option maxHeartbeats 4000000 in
theorem Put_arg (g : Nat) (m : Option Nat) (x : List Lst) (c n e : Int) (w : World) (H : TabAt w g m x) (hx : TabOk x) (h1 : -9223372036854775808 ≤ c) (h2 : c ≤ 9223372036854775807) (hr : rightL c n e = false) :
    Calls Try.prog 8 #[.pointer (some ⟨g, 0, none⟩), .int .i64 c, .int .i64 n, .int .i64 e] w (PutRet g x c n e w) := by
  have hl := has_run H.2 h1 h2
  obtain ⟨W1, hW1, hb1, x0, H1, g1, g0, gz⟩ := put_start (c := c) H h1 h2
  have Hb1 := Lib.hid hb1; have H0 := Lib.hid H; have Hr := Lib.hid hr; have Hx := Lib.hid hx
  clear hb1 H1 H hr hx
  go_enter Try.func8, Try.ntmps8
  go_wp2_with (go_at_call 17; refine (right_any c n e _).mono ?_; rw [Hr.out]; rintro e3 w3 ⟨rfl, rfl⟩)
  go_ret
  exact PutRet.no rfl (by unfold putA; rw [if_pos Hr.out]) (by decide) H0.out Hb1.out

set_option maxRecDepth 100000 in
set_option maxHeartbeats 4000000 in
theorem Put_store (g : Nat) (m : Option Nat) (x : List Lst) (c n e : Int) (w : World) (H : TabAt w g m x) (hx : TabOk x) (h1 : -9223372036854775808 ≤ c) (h2 : c ≤ 9223372036854775807) (h0 : putA x c n e = 0) :
    Calls Try.prog 8 #[.pointer (some ⟨g, 0, none⟩), .int .i64 c, .int .i64 n, .int .i64 e] w (PutRet g x c n e w) := by
  have hl := has_run H.2 h1 h2
  obtain ⟨W1, hW1, hb1, x0, H1, g1, g0, gz⟩ := put_start (c := c) H h1 h2
  have hlen := fun ty => len_run H1.2 ty
  have hxl := hx.len
  have K := with_any m x c n e W1 H1.2 hx.rise h1 h2 (by omega)
  have HK := Lib.hid K; have Hb1 := Lib.hid hb1; have HH := Lib.hid H; have H1' := Lib.hid H1
  have hlast := lastOf
  have hr : rightL c n e = true := by
    unfold putA at h0
    split at h0
    · cases h0
    · rename_i h; simpa using h
  have Hr := Lib.hid hr
  have Hp := Lib.hid h0
  have Hg := Lib.hid H1.lt
  clear K hb1 H1 H hr hx hlast
  cases hat : atL x c with
  | none =>
    rw [hat] at hl
    have hn : x.length < 32 := by
      have h0 := Hp.out
      unfold putA at h0
      rw [hat, if_neg (by rw [Hr.out]; decide)] at h0
      simp only at h0
      split at h0
      · cases h0
      · omega
    have hn1 : ¬ (x.length : Int) ≥ 32 := by omega
    simp only [Option.isSome_none] at hl
    clear hat h0
    go_enter Try.func8, Try.ntmps8
    go_wp2_with (first
      | (go_at_call 17; refine (right_any c n e _).mono ?_; rw [Hr.out]; rintro e3 w3 ⟨rfl, rfl⟩)
      | (go_at_call 18; refine HK.out.mono ?_; rintro e4 w4 ⟨b, rfl, hbg, h4, hb4⟩; have T4 := Lib.hid (H1'.out.below hb4); have f4 := row_frozen T4.out.1 0; have f5 := row_cell T4.out.1 0; have Hbg := Lib.hid hbg; have H4 := Lib.hid h4; have Hb4 := Lib.hid hb4; clear hbg h4 hb4))
    go_ret
    have hs := T4.out.set (m' := some b) (.inr ⟨b, rfl, H4.out⟩) (fun e => by have := Hg.out; have := Hbg.out; injection e with e; omega)
    refine ⟨by rw [Hp.out]; rfl, ⟨some b, ?_⟩, ((Turned.of_below (Hb1.out.trans (Hb4.out.mono Hb1.out.size))).trans hs.2 (p := fun k => k = g) (fun _ e => e) (fun _ _ e => e))⟩
    unfold putX
    rw [if_pos Hp.out]
    exact hs.1
  | some l =>
    have e0 : lastOf x c = l.2 := by unfold lastOf; rw [hat]
    rw [e0] at hl x0 hW1
    rw [hat] at hl
    have hn : l.2.1 < n := by
      have h0 := Hp.out
      unfold putA at h0
      rw [hat, if_neg (by rw [Hr.out]; decide)] at h0
      simp only at h0
      split at h0
      · cases h0
      · omega
    have hn1 : ¬ l.2.1 ≥ n := by omega
    simp only [Option.isSome_some] at hl
    clear hat e0 hn h0
    go_enter Try.func8, Try.ntmps8
    go_wp2_with (first
      | (go_at_call 17; refine (right_any c n e _).mono ?_; rw [Hr.out]; rintro e3 w3 ⟨rfl, rfl⟩)
      | (go_at_call 18; refine HK.out.mono ?_; rintro e4 w4 ⟨b, rfl, hbg, h4, hb4⟩; have T4 := Lib.hid (H1'.out.below hb4); have f4 := row_frozen T4.out.1 0; have f5 := row_cell T4.out.1 0; have Hbg := Lib.hid hbg; have H4 := Lib.hid h4; have Hb4 := Lib.hid hb4; clear hbg h4 hb4))
    go_ret
    have hs := T4.out.set (m' := some b) (.inr ⟨b, rfl, H4.out⟩) (fun e => by have := Hg.out; have := Hbg.out; injection e with e; omega)
    refine ⟨by rw [Hp.out]; rfl, ⟨some b, ?_⟩, ((Turned.of_below (Hb1.out.trans (Hb4.out.mono Hb1.out.size))).trans hs.2 (p := fun k => k = g) (fun _ e => e) (fun _ _ e => e))⟩
    unfold putX
    rw [if_pos Hp.out]
    exact hs.1

set_option maxRecDepth 100000 in
set_option maxHeartbeats 4000000 in
theorem Put_any (g : Nat) (m : Option Nat) (x : List Lst) (c n e : Int) (w : World) (H : TabAt w g m x) (hx : TabOk x) (h1 : -9223372036854775808 ≤ c) (h2 : c ≤ 9223372036854775807) :
    Calls Try.prog 8 #[.pointer (some ⟨g, 0, none⟩), .int .i64 c, .int .i64 n, .int .i64 e] w (PutRet g x c n e w) := by
  cases hr : rightL c n e with
  | false => exact Put_arg g m x c n e w H hx h1 h2 hr
  | true =>
    by_cases h0 : putA x c n e = 0
    · exact Put_store g m x c n e w H hx h1 h2 h0
    have hl := has_run H.2 h1 h2
    obtain ⟨W1, hW1, hb1, x0, H1, g1, g0, gz⟩ := put_start (c := c) H h1 h2
    have hlen := fun ty => len_run H1.2 ty
    have hxl := hx.len
    have Hb1 := Lib.hid hb1; have HH := Lib.hid H; have Hr := Lib.hid hr
    clear hb1 H1 H hr hx
    cases hat : atL x c with
    | none =>
      rw [hat] at hl
      have hp : ∀ a, (if 32 ≤ x.length then (6 : Int) else 0) = a → putA x c n e = a := fun a h => by
        unfold putA
        rw [hat, if_neg (by rw [Hr.out]; decide)]
        exact h
      have hn : 32 ≤ x.length := by
        by_cases h : 32 ≤ x.length
        · exact h
        · exact absurd (hp 0 (if_neg h)) h0
      have Hp := Lib.hid (hp 6 (if_pos hn))
      have hn1 : (x.length : Int) ≥ 32 := by omega
      simp only [Option.isSome_none] at hl
      clear hat h0 hp hn
      go_enter Try.func8, Try.ntmps8
      go_wp2_with (go_at_call 17; refine (right_any c n e _).mono ?_; rw [Hr.out]; rintro e3 w3 ⟨rfl, rfl⟩)
      go_ret
      exact PutRet.no rfl Hp.out (by decide) HH.out Hb1.out
    | some l =>
      have e0 : lastOf x c = l.2 := by unfold lastOf; rw [hat]
      rw [e0] at hl x0 hW1
      rw [hat] at hl
      have hp : ∀ a, (if n ≤ l.2.1 then (13 : Int) else 0) = a → putA x c n e = a := fun a h => by
        unfold putA
        rw [hat, if_neg (by rw [Hr.out]; decide)]
        exact h
      have hn : n ≤ l.2.1 := by
        by_cases h : n ≤ l.2.1
        · exact h
        · exact absurd (hp 0 (if_neg h)) h0
      have Hp := Lib.hid (hp 13 (if_pos hn))
      have hn1 : l.2.1 ≥ n := hn
      simp only [Option.isSome_some] at hl
      clear hat h0 hp hn e0
      go_enter Try.func8, Try.ntmps8
      go_wp2_with (go_at_call 17; refine (right_any c n e _).mono ?_; rw [Hr.out]; rintro e3 w3 ⟨rfl, rfl⟩)
      go_ret
      exact PutRet.no rfl Hp.out (by decide) HH.out Hb1.out
end Go.Proofs.Ytkjfaijdmpnjkaa
