/-
  Contracts of (*sched.state).up, sched.hold, (*sched.Sched).stand. Conditions: a scheduler in memory; what each names.
-/
import Derived.Test.YtbfjakchgmdldaaGreatSchStep
import Derived.Test.YtbfjakchgmdldaaGreatHomUse
import Derived.Test.YtbfjakchgmdldaaGreatClkC
namespace Go.Proofs.YtbfjakchgmdldaaGreat
open Go.ChangeShapes Go.WideShapes Go.ChangeAt Go.RowKit Go.Maps
set_option linter.unusedVariables false

theorem upF_len (f : Fl) {n : Nat} (hn : f.q.length = n) : upF f = decide (0 < n) := by
  subst hn
  unfold upF
  cases f.q with
  | nil => rfl
  | cons a r => simp
theorem up_any (B g : Nat) (f : Fl) (v : Value) (w : World) (h : StAt w B g f v) : Calls Tryz.prog 24 #[.pointer (some ⟨g, 0, none⟩)] w fun e w' => e = .returned (.bool (upF f)) ∧ w = w' := by
  obtain ⟨A, c, rfl⟩ := h.2.2.form
  obtain ⟨n, hn⟩ : ∃ n, f.q.length = n := ⟨_, rfl⟩
  have a8 : w.cell? ⟨g, 8, none⟩ = some (.slice A n c) := by rw [row_cell h.2.1 8, ← hn]; rfl
  rw [upF_len f hn]
  clear h
  go_enter Tryz.func24, Tryz.ntmps24
  go_wp2
  go_ret
  exact ⟨rfl, rfl⟩
/-- what hold hands back -/
def HoldRet (B : Nat) (h : Home) (q m : Option Nat) (x : List Ent) (w : World) (en : Ending) (w' : World) : Prop :=
  en = .returned (.tuple #[]) ∧ ∃ q' m', HeapAt w' B h q' m' x ∧ Turned (Foot h q m) w w' ∧ ∀ k, Foot h q' m' k → Foot h q m k ∨ w.heap.size ≤ k
theorem shold_any (B : Nat) (h : Home) (q m : Option Nat) (x : List Ent) (n k : Int) (b : Bool) (w : World) (H : HeapAt w B h q m x) (hx : x.length ≤ 50000) (he : Fits (n, k)) (hB : B ≤ w.heap.size) :
    Calls Tryz.prog 37 #[.pointer (some ⟨h.b, h.o, none⟩), .int .i64 n, .int .i64 k, .bool b] w (HoldRet B h q m (holdE x n k b) w) := by
  have HH := Lib.hid H; have HX := Lib.hid hx; have HE := Lib.hid he; have HB := Lib.hid hB
  clear H hx he hB
  cases b with
  | true =>
    go_enter Tryz.func37, Tryz.ntmps37
    go_wp2_with (go_at_call 51; refine (Set_any B h q m x n k w HH.out HX.out HE.out HB.out).mono ?_; rintro en w2 ⟨rfl, h2⟩; have H2 := Lib.hid h2; clear h2)
    go_end0
    unfold HoldRet
    exact ⟨rfl, H2.out⟩
  | false =>
    go_enter Tryz.func37, Tryz.ntmps37
    go_wp2_with (go_at_call 33; refine (Drop_any B h q m x n w HH.out HX.out HE.out.1.1 HE.out.1.2).mono ?_; rintro en w2 ⟨b, rfl, -, h2, t2⟩; have H2 := Lib.hid (And.intro h2 t2); clear h2 t2)
    go_end0
    unfold HoldRet
    exact ⟨rfl, q, m, H2.out.1, H2.out.2, fun j hj => .inl hj⟩
/-- what stand hands back: the flow where it belongs in either heap -/
def StandRet (B s mf : Nat) (ks : List Int) (bs : Int → Nat) (qs : Int → Value) (F : Int → Fl) (xr xw : List Ent) (w : World) (en : Ending) (w' : World) : Prop :=
  en = .returned (.tuple #[]) ∧ ∃ q1 m1 q2 m2, SchRaw w' B s mf q1 m1 q2 m2 ks bs qs F xr xw ∧ KeptH B w w'
set_option maxRecDepth 100000 in
set_option maxHeartbeats 2000000 in
theorem stand_any (B s mf : Nat) (q1 m1 q2 m2 : Option Nat) (ks : List Int) (bs : Int → Nat) (qs : Int → Value) (F : Int → Fl) (xr xw : List Ent) (k : Int) (w : World) (H : SchRaw w B s mf q1 m1 q2 m2 ks bs qs F xr xw) (hk : k ∈ ks) (h1 : xr.length ≤ 40000) (h2 : xw.length ≤ 40000) (hB : B ≤ w.heap.size) :
    Calls Tryz.prog 21 #[.pointer (some ⟨s, 0, none⟩), .int .i64 k, .pointer (some ⟨bs k, 0, none⟩)] w (StandRet B s mf ks bs qs F (holdE xr k (F k).c.r (inR (F k))) (holdE xw k (F k).c.p (upF (F k))) w) := by
  have hst := H.st k hk
  have ho := H.ok k hk
  have hbd := H.bd k hk
  have KU := Lib.hid (fun W (h : StAt W B (bs k) (F k) (qs k)) => Calls.stay (up_any B (bs k) (F k) (qs k) W h))
  obtain ⟨f, hf⟩ : ∃ f, F k = f := ⟨_, rfl⟩
  rw [hf] at hst ho KU ⊢
  have a1 : w.cell? ⟨bs k, 1, none⟩ = some (.int .i64 f.p.re) := row_cell hst.2.1 1
  have a5 : w.cell? ⟨bs k, 5, none⟩ = some (.int .i64 f.c.r) := row_cell hst.2.1 5
  have a6 : w.cell? ⟨bs k, 6, none⟩ = some (.int .i64 f.c.p) := row_cell hst.2.1 6
  obtain ⟨X, Y, hR⟩ := H.hr
  have HH := Lib.hid H; have HR := Lib.hid hR; have Hst := Lib.hid hst; have Ho := Lib.hid ho; have Hbd := Lib.hid hbd; have Hf := Lib.hid hf; have H1 := Lib.hid h1; have H2 := Lib.hid h2; have HB := Lib.hid hB; have Hk := Lib.hid hk
  have mixed : Tryz.prog.follows .mixedOrders = true := mixed_is
  clear H hst ho hbd hf hR h1 h2 hB hk
  have hin : inR f = (upF f && decide (0 < f.p.re)) := rfl
  obtain ⟨u, hu⟩ : ∃ u, upF f = u := ⟨_, rfl⟩
  rw [hu] at hin KU
  have Hu := Lib.hid hu; have Hin := Lib.hid hin
  clear hu hin
  obtain ⟨g, hg⟩ : ∃ g, bs k = g := ⟨_, rfl⟩
  rw [hg] at a1 a5 a6 KU ⊢
  have Hg := Lib.hid hg; clear hg
  cases u with
  | true =>
    go_enter Tryz.func21, Tryz.ntmps21
    go_upto_region 0 with fail
    go_still_tail 19, (by kernel_rfl)
    still_call (KU.out _ (by rw [← Hg.out]; exact Hst.out))
    repeat still_step
    refine wpStill_nil ?_
    change wpList _ _ _ _ _ w.drew
    go_wp2_with fail
    refine (shold_any B (homeR s mf X Y) q1 m1 xr k f.c.r (decide (0 < f.p.re)) w.drew (HR.out.below (Below.refl _ _).drew) (by have := H1.out; omega) (show Fits (k, f.c.r) from ⟨⟨by have := Hbd.out; omega, by have := Hbd.out; omega⟩, Ho.out.clk.1⟩) HB.out).mono ?_
    rintro en w2 ⟨rfl, q1', m1', h2, t2, f2⟩
    have hs := (HH.out.below (Below.refl _ w).drew).setR h2 (HR.out.below (Below.refl _ _).drew) t2 f2
    obtain ⟨X', Y', hW⟩ := hs.1.hw
    have hst2 := hs.1.st k Hk.out
    rw [Hf.out, Hg.out] at hst2
    have HS := Lib.hid hs; have HW := Lib.hid hW; have Hst2 := Lib.hid hst2
    have a6 : w2.cell? ⟨g, 6, none⟩ = some (.int .i64 f.c.p) := row_cell hst2.2.1 6
    have HB2 := Lib.hid (show B ≤ w2.heap.size from Nat.le_trans HB.out t2.size)
    clear h2 t2 f2 hs hW hst2
    go_wp2
    go_still_tail 11, (by kernel_rfl)
    still_call (KU.out _ Hst2.out)
    repeat still_step
    refine wpStill_nil ?_
    change wpList _ _ _ _ _ w2.drew
    go_wp2_with fail
    refine (shold_any B (homeW s mf X' Y') q2 m2 xw k f.c.p true w2.drew (HW.out.below (Below.refl _ _).drew) (by have := H2.out; omega) (show Fits (k, f.c.p) from ⟨⟨by have := Hbd.out; omega, by have := Hbd.out; omega⟩, Ho.out.clk.2.1⟩) HB2.out).mono ?_
    rintro en w3 ⟨rfl, q2', m2', h3, t3, f3⟩
    have hs3 := (HS.out.1.below (Below.refl _ w2).drew).setW h3 (HW.out.below (Below.refl _ _).drew) t3 f3
    have HS3 := Lib.hid hs3
    clear h3 t3 f3 hs3
    go_wp2
    go_end0
    unfold StandRet
    rw [Hin.out, Hu.out]
    exact ⟨rfl, q1', m1', q2', m2', HS3.out.1, ((KeptH.of_below (Below.refl _ w).drew).trans HS.out.2).trans ((KeptH.of_below (Below.refl _ w2).drew).trans HS3.out.2)⟩
  | false =>
    go_enter Tryz.func21, Tryz.ntmps21
    go_upto_region 0 with fail
    go_still_tail 19, (by kernel_rfl)
    still_call (KU.out _ (by rw [← Hg.out]; exact Hst.out))
    repeat still_step
    refine wpStill_nil ?_
    change wpList _ _ _ _ _ w.drew
    go_wp2_with fail
    refine (shold_any B (homeR s mf X Y) q1 m1 xr k f.c.r false w.drew (HR.out.below (Below.refl _ _).drew) (by have := H1.out; omega) (show Fits (k, f.c.r) from ⟨⟨by have := Hbd.out; omega, by have := Hbd.out; omega⟩, Ho.out.clk.1⟩) HB.out).mono ?_
    rintro en w2 ⟨rfl, q1', m1', h2, t2, f2⟩
    have hs := (HH.out.below (Below.refl _ w).drew).setR h2 (HR.out.below (Below.refl _ _).drew) t2 f2
    obtain ⟨X', Y', hW⟩ := hs.1.hw
    have hst2 := hs.1.st k Hk.out
    rw [Hf.out, Hg.out] at hst2
    have HS := Lib.hid hs; have HW := Lib.hid hW; have Hst2 := Lib.hid hst2
    have a6 : w2.cell? ⟨g, 6, none⟩ = some (.int .i64 f.c.p) := row_cell hst2.2.1 6
    have HB2 := Lib.hid (show B ≤ w2.heap.size from Nat.le_trans HB.out t2.size)
    clear h2 t2 f2 hs hW hst2
    go_wp2
    go_still_tail 11, (by kernel_rfl)
    still_call (KU.out _ Hst2.out)
    repeat still_step
    refine wpStill_nil ?_
    change wpList _ _ _ _ _ w2.drew
    go_wp2_with fail
    refine (shold_any B (homeW s mf X' Y') q2 m2 xw k f.c.p false w2.drew (HW.out.below (Below.refl _ _).drew) (by have := H2.out; omega) (show Fits (k, f.c.p) from ⟨⟨by have := Hbd.out; omega, by have := Hbd.out; omega⟩, Ho.out.clk.2.1⟩) HB2.out).mono ?_
    rintro en w3 ⟨rfl, q2', m2', h3, t3, f3⟩
    have hs3 := (HS.out.1.below (Below.refl _ w2).drew).setW h3 (HW.out.below (Below.refl _ _).drew) t3 f3
    have HS3 := Lib.hid hs3
    clear h3 t3 f3 hs3
    go_wp2
    go_end0
    unfold StandRet
    rw [Hin.out, Hu.out]
    exact ⟨rfl, q1', m1', q2', m2', HS3.out.1, ((KeptH.of_below (Below.refl _ w).drew).trans HS.out.2).trans ((KeptH.of_below (Below.refl _ w2).drew).trans HS3.out.2)⟩
end Go.Proofs.YtbfjakchgmdldaaGreat
