/-
  Two trackers side by side: what is done with one leaves the other as it was. Conditions: what each names.
-/
import Derived.Test.YtkfhocmnkamhlaaRhoA
namespace Go.Proofs.Ytkfhocmnkamhlaa
open Go.ChangeShapes Go.WideShapes Go.ChangeAt Go.RowKit Go.Maps
set_option linter.unusedVariables false

/-- two trackers, no block of one is the other's -/
def TwoT (w : World) (B n ga gb : Nat) (ta : Cn) (fa : Int → Cn) (tb : Cn) (fb : Int → Cn) : Prop :=
  ∃ ma mb, TrkAt w B ga n ma ta fa ∧ TrkAt w B gb n mb tb fb ∧ ∀ k, FootT ga ma k → ¬ FootT gb mb k
theorem TwoT.swap {w : World} {B n ga gb : Nat} {ta : Cn} {fa : Int → Cn} {tb : Cn} {fb : Int → Cn} (H : TwoT w B n ga gb ta fa tb fb) : TwoT w B n gb ga tb fb ta fa := by
  obtain ⟨ma, mb, h1, h2, h3⟩ := H
  exact ⟨mb, ma, h2, h1, fun k e e2 => h3 k e2 e⟩
theorem TwoT.below {w w' : World} {B n ga gb : Nat} {ta : Cn} {fa : Int → Cn} {tb : Cn} {fb : Int → Cn} (H : TwoT w B n ga gb ta fa tb fb) (hw : Below w.heap.size w w') : TwoT w' B n ga gb ta fa tb fb := by
  obtain ⟨ma, mb, h1, h2, h3⟩ := H
  exact ⟨ma, mb, h1.below hw, h2.below hw, h3⟩
theorem TwoT.mono {w : World} {B n n' ga gb : Nat} {ta : Cn} {fa : Int → Cn} {tb : Cn} {fb : Int → Cn} (H : TwoT w B n ga gb ta fa tb fb) (hn : n ≤ n') : TwoT w B n' ga gb ta fa tb fb := by
  obtain ⟨ma, mb, h1, h2, h3⟩ := H
  exact ⟨ma, mb, h1.mono hn, h2.mono hn, h3⟩
def zeroT : Obj := .cells #[.int .i64 0, .int .i64 0, .map none] 28
theorem TwoT.new (w : World) : TwoT ((w.alloc zeroT).alloc zeroT) w.heap.size 0 w.heap.size (w.heap.size + 1) (0, 0) (fun _ => (0, 0)) (0, 0) (fun _ => (0, 0)) := by
  have h1 := (new_trk w).below (below_boxT (w.alloc zeroT) zeroT)
  have e : (w.alloc zeroT).heap.size = w.heap.size + 1 := by simp
  have h2 : TrkAt ((w.alloc zeroT).alloc zeroT) w.heap.size (w.heap.size + 1) 0 none (0, 0) fun _ => (0, 0) := TrkAt.zero (by omega) (by rw [← e]; exact heap_alloc_new _ _)
  exact ⟨none, none, h1, h2, fun k h3 h4 => by
    rcases h3 with h3 | h3
    · rcases h4 with h4 | h4
      · omega
      · cases h4
    · cases h3⟩
/-- one of two has turned -/
theorem TwoT.one {w w' : World} {B n n' ga gb : Nat} {m m' mb : Option Nat} {ta ta' : Cn} {fa fa' : Int → Cn} {tb : Cn} {fb : Int → Cn} (hB : B ≤ w.heap.size) (h1 : TrkAt w B ga n m ta fa) (h2 : TrkAt w B gb n mb tb fb) (h3 : ∀ k, FootT ga m k → ¬ FootT gb mb k)
    (h : TrkAt w' B ga n' m' ta' fa') (hn : n ≤ n') (t : Turned (FootT ga m) w w') (hg : ∀ k, FootT ga m' k → FootT ga m k ∨ w.heap.size ≤ k) : TwoT w' B n' ga gb ta' fa' tb fb ∧ Below B w w' :=
  ⟨⟨m', mb, h, (h2.turned t fun k e e2 => h3 k e2 e).mono hn, fun k e e2 => by
    rcases hg k e with e3 | e3
    · exact h3 k e3 e2
    · have := (h2.spares e2).2
      omega⟩, h1.over hB t⟩
def Done2Ret (B n ga gb : Nat) (ta : Cn) (fa : Int → Cn) (tb : Cn) (fb : Int → Cn) (w : World) (en : Ending) (w' : World) : Prop := en = .returned (.tuple #[]) ∧ TwoT w' B n ga gb ta fa tb fb ∧ Below B w w'
def Begin2Ret (B n ga gb : Nat) (d : Cn) (ta : Cn) (fa : Int → Cn) (tb : Cn) (fb : Int → Cn) (w : World) (en : Ending) (w' : World) : Prop := en = .returned (.tuple #[.int .i64 d.1, .int .i64 d.2]) ∧ TwoT w' B n ga gb ta fa tb fb ∧ Below B w w'
theorem DoneA_any (B n ga gb : Nat) (ta : Cn) (fa : Int → Cn) (tb : Cn) (fb : Int → Cn) (s p : Int) (w : World) (H : TwoT w B n ga gb ta fa tb fb) (hB : B ≤ w.heap.size) (hs : -9223372036854775808 ≤ s ∧ s ≤ 9223372036854775807) (hn : n ≤ 90000) :
    Calls Try.prog 10 #[.pointer (some ⟨ga, 0, none⟩), .int .i64 s, .int .i64 p] w (Done2Ret B (n + 2) ga gb (addC ta (oneC p)) (updC fa s (addC (fa s) (oneC p))) tb fb w) := by
  obtain ⟨ma, mb, h1, h2, h3⟩ := H
  refine (Done_any B ga n ma ta fa s p w h1 hB hs hn).mono ?_
  rintro e w' ⟨rfl, m', h, t, g⟩
  exact ⟨rfl, TwoT.one hB h1 h2 h3 h (by omega) t g⟩
theorem DoneB_any (B n ga gb : Nat) (ta : Cn) (fa : Int → Cn) (tb : Cn) (fb : Int → Cn) (s p : Int) (w : World) (H : TwoT w B n ga gb ta fa tb fb) (hB : B ≤ w.heap.size) (hs : -9223372036854775808 ≤ s ∧ s ≤ 9223372036854775807) (hn : n ≤ 90000) :
    Calls Try.prog 10 #[.pointer (some ⟨gb, 0, none⟩), .int .i64 s, .int .i64 p] w (Done2Ret B (n + 2) ga gb ta fa (addC tb (oneC p)) (updC fb s (addC (fb s) (oneC p))) w) := by
  refine (DoneA_any B n gb ga tb fb ta fa s p w H.swap hB hs hn).mono ?_
  rintro e w' ⟨rfl, h, b⟩
  exact ⟨rfl, h.swap, b⟩
theorem BeginA_any (B n ga gb : Nat) (ta : Cn) (fa : Int → Cn) (tb : Cn) (fb : Int → Cn) (s : Int) (w : World) (H : TwoT w B n ga gb ta fa tb fb) (hB : B ≤ w.heap.size) (hs : -9223372036854775808 ≤ s ∧ s ≤ 9223372036854775807) (hn : n ≤ 90000) :
    Calls Try.prog 8 #[.pointer (some ⟨ga, 0, none⟩), .int .i64 s] w (Begin2Ret B (n + 1) ga gb (subC ta (fa s)) ta (updC fa s ta) tb fb w) := by
  obtain ⟨ma, mb, h1, h2, h3⟩ := H
  refine (Begin_any B ga n ma ta fa s w h1 hB hs (by omega)).mono ?_
  rintro e w' ⟨rfl, m', h, t, g⟩
  exact ⟨rfl, TwoT.one hB h1 h2 h3 h (by omega) t g⟩
theorem BeginB_any (B n ga gb : Nat) (ta : Cn) (fa : Int → Cn) (tb : Cn) (fb : Int → Cn) (s : Int) (w : World) (H : TwoT w B n ga gb ta fa tb fb) (hB : B ≤ w.heap.size) (hs : -9223372036854775808 ≤ s ∧ s ≤ 9223372036854775807) (hn : n ≤ 90000) :
    Calls Try.prog 8 #[.pointer (some ⟨gb, 0, none⟩), .int .i64 s] w (Begin2Ret B (n + 1) ga gb (subC tb (fb s)) ta fa tb (updC fb s tb) w) := by
  refine (BeginA_any B n gb ga tb fb ta fa s w H.swap hB hs hn).mono ?_
  rintro e w' ⟨rfl, h, b⟩
  exact ⟨rfl, h.swap, b⟩
theorem TotalB_any (B n ga gb : Nat) (ta : Cn) (fa : Int → Cn) (tb : Cn) (fb : Int → Cn) (w : World) (H : TwoT w B n ga gb ta fa tb fb) :
    Calls Try.prog 11 #[.pointer (some ⟨gb, 0, none⟩)] w fun e w' => e = .returned (.tuple #[.int .i64 tb.1, .int .i64 tb.2]) ∧ Below w.heap.size w w' := by
  obtain ⟨ma, mb, h1, h2, h3⟩ := H
  exact Total_any B gb n mb tb fb w h2
end Go.Proofs.Ytkfhocmnkamhlaa
