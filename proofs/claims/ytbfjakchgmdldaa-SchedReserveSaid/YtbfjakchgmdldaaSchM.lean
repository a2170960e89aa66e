/-
  Up to six flows that are always up, with three items each: what Set, fill, Pick and Push do with them. Conditions: a scheduler in memory.
-/
import Derived.Test.YtbfjakchgmdldaaSchAwk
import Derived.Test.YtbfjakchgmdldaaSchFil
import Derived.Test.YtbfjakchgmdldaaClkLim
namespace Go.Proofs.Ytbfjakchgmdldaa
open Go.ChangeShapes Go.WideShapes Go.ChangeAt Go.RowKit
set_option linter.unusedVariables false

/-- the first numbers -/
def ksN (i : Nat) : List Int := (List.range i).map fun (j : Nat) => (j : Int)
theorem ksN_mem {i : Nat} {k : Int} : k ∈ ksN i ↔ ∃ j : Nat, j < i ∧ k = j := by
  unfold ksN
  rw [List.mem_map]
  constructor
  · rintro ⟨j, hj, rfl⟩; exact ⟨j, List.mem_range.1 hj, rfl⟩
  · rintro ⟨j, hj, rfl⟩; exact ⟨j, List.mem_range.2 hj, rfl⟩
theorem ksN_in {i j : Nat} (h : j < i) : (j : Int) ∈ ksN i := ksN_mem.2 ⟨j, h, rfl⟩
theorem ksN_not {i : Nat} : ¬ (i : Int) ∈ ksN i := fun h => by
  obtain ⟨j, hj, e⟩ := ksN_mem.1 h
  omega
theorem ksN_len (i : Nat) : (ksN i).length = i := by simp [ksN]
theorem putK_ksN {i : Nat} (h : i < 6) : putK (ksN i) i = ksN (i + 1) := by
  rcases (show i = 0 ∨ i = 1 ∨ i = 2 ∨ i = 3 ∨ i = 4 ∨ i = 5 by omega) with rfl | rfl | rfl | rfl | rfl | rfl <;> decide
theorem atF_small {t : Int} (h0 : 0 ≤ t) (h1 : t ≤ 1000000) : atF t = 65536 * t := by
  have e1 : holdF t = t := by unfold holdF; omega
  have e2 : holdF 65536 = 65536 := by decide
  unfold atF timesF
  rw [e1, e2, if_neg (by omega), Int.mul_comm]

/-- items without delta and rho -/
def plain (q : List Itm) (n : Nat) : Prop := q.length = n ∧ ∀ i ∈ q, i.de = 0 ∧ i.rh = 0
theorem plain_fill : plain (fillQ 3) 3 := ⟨fillQ_len 3, by decide⟩
theorem plain.push {q : List Itm} {n : Nat} (h : plain q n) : plain (q ++ [⟨0, 0, 0⟩]) (n + 1) := by
  refine ⟨by rw [List.length_append, h.1]; rfl, fun i hi => ?_⟩
  rcases List.mem_append.1 hi with hi | hi
  · exact h.2 i hi
  · rw [List.mem_singleton.1 hi]; exact ⟨rfl, rfl⟩
/-- the first i flows are up, with the policies of l, and with three items -/
structure UpF (l : List Pol) (i : Nat) (F : Int → Fl) : Prop where
  pol : ∀ k : Nat, k < i → l[k]? = some (F k).p ∧ rightP (F k).p = true
  q : ∀ k : Nat, k < i → plain (F k).q 3
  tags : ∀ k : Nat, k < i → tagsC (F k).c
theorem UpF.nil (l : List Pol) (F : Int → Fl) : UpF l 0 F := ⟨fun k h => absurd h (by omega), fun k h => absurd h (by omega), fun k h => absurd h (by omega)⟩
theorem UpF.up {l : List Pol} {i : Nat} {F : Int → Fl} (h : UpF l i F) {k : Nat} (hk : k < i) : upF (F k) = true := (upF_iff _).2 fun e => by have := (h.q k hk).1; rw [e] at this; cases this
/-- a flow that was just set, and filled -/
def upFl (p : Pol) (l : Int) : Fl := ⟨1, p, ⟨0, l, 0⟩, fillQ 3⟩
theorem UpF.more {l : List Pol} {i : Nat} {F : Int → Fl} {p : Pol} {x : Int} (h : UpF l i F) (hp : l[i]? = some p) (hr : rightP p = true) (hx : isTag x) : UpF l (i + 1) (updF F i (upFl p x)) := by
  refine ⟨fun k hk => ?_, fun k hk => ?_, fun k hk => ?_⟩
  all_goals
    by_cases e : (k : Int) = i
    · rw [e, updF_same]
      first
        | (have e' : k = i := by omega
           subst e'
           exact ⟨hp, hr⟩)
        | exact plain_fill
        | exact ⟨⟨by show (0 : Int) ≤ 0; omega, by show (0 : Int) ≤ _; omega⟩, hx, ⟨by show (0 : Int) ≤ 0; omega, by show (0 : Int) ≤ _; omega⟩⟩
    · rw [updF_other e]
      first
        | exact h.pol k (by omega)
        | exact h.q k (by omega)
        | exact h.tags k (by omega)
theorem up_set {w : World} {Z s i : Nat} {F : Int → Fl} {l : List Pol} {p : Pol} (hi : i < 6) (H : SchAt w Z s (ksN i) F) (hr : rightP p = true) (hp : InP p) (hB : Z ≤ w.heap.size) :
    Calls Try.prog 11 #[.pointer (some ⟨s, 0, none⟩), .int .i64 (i : Int), .int .i64 1, .agg #[.int .i64 p.re, .int .i64 p.we, .int .i64 p.li, .int .i64 p.bu]] w (fun e w' => e = .returned (.int .i64 0) ∧ SchAt w' Z s (ksN (i + 1)) (updF F i (setFl newFl 1 p)) ∧ KeptS Z w w') := by
  refine (SSet_any Z s (ksN i) F i 1 p w H (by unfold In64; omega) (by unfold In64; decide) hp (by rw [ksN_len]; omega) hB).mono ?_
  rintro e w' ⟨rfl, h1, h2⟩
  have e0 : setE (ksN i) F i 1 p = 0 := by
    unfold setE
    rw [if_neg (by rintro (h | h | h) <;> first | omega | (rw [hr] at h; cases h)), if_neg fun h => ksN_not h.1]
  unfold setK setG at h1
  rw [e0, if_pos rfl, if_pos rfl, if_neg ksN_not, putK_ksN hi] at h1
  exact ⟨by rw [e0], h1, h2⟩
theorem up_fill {w : World} {Z s i : Nat} {F : Int → Fl} {l : List Pol} {p : Pol} (hi : i < 6) (hU : UpF l i F) (H : SchAt w Z s (ksN (i + 1)) (updF F i (setFl newFl 1 p))) (hB : Z ≤ w.heap.size) :
    Calls Try.prog 12 #[.pointer (some ⟨s, 0, none⟩), .int .i64 (i : Int), .int .i64 0] w (fun e w' => e = .returned (.bool true) ∧ ∃ x, isTag x ∧ SchAt w' Z s (ksN (i + 1)) (updF F i (upFl p x)) ∧ KeptS Z w w') := by
  refine (fill_any Z s (ksN (i + 1)) _ i 0 w H (ksN_in (by omega)) (by rw [updF_same]; rfl) (by unfold In64; omega) (by unfold In64; decide) (by rw [ksN_len]; omega) hB).mono ?_
  rintro e w' ⟨rfl, x, hl, h1, h2⟩
  have hx : isTag x := by
    rcases hl with ⟨_, rfl⟩ | ⟨j, hj, hu, rfl, _⟩
    · exact ⟨by omega, by omega⟩
    · obtain ⟨j, hj, rfl⟩ := ksN_mem.1 hj
      by_cases e : (j : Int) = i
      · rw [e, updF_same] at hu
        cases hu
      · rw [updF_other e]
        exact (hU.tags j (by omega)).2.1
  refine ⟨rfl, x, hx, ?_, h2⟩
  rw [updF_upd, updF_same] at h1
  have : fillFl (setFl newFl 1 p) 0 x 3 = upFl p x := by
    unfold fillFl
    rw [if_neg (by decide)]
    have e2 : wakeF (setFl newFl 1 p).c (atF 0) x = ⟨0, x, 0⟩ := by
      rw [show atF 0 = 0 by decide]
      unfold wakeF setFl newFl
      simp only
      have := hx.1
      rw [show max (0 : Int) 0 = 0 by omega, show max 0 x = x by omega]
    rw [e2]
    rfl
  rwa [this] at h1

/-! ### Pick, and Push -/
theorem Next.by_limit {ks : List Int} {F : Int → Fl} {now k ph : Int} (h : Next ks F now k ph true) : byLimitF (F k).p (F k).c now = true ∧ (ph = 1 ∨ ph = 2) := by
  rcases h with ⟨_, rfl, hf⟩ | ⟨_, rfl, _, hf⟩ | ⟨h, _⟩
  · exact ⟨(due_free hf.1).2.2, .inl rfl⟩
  · exact ⟨hf.1.2.2, .inr rfl⟩
  · cases h
/-- the clocks of a flow that was picked at a tick -/
def cPick (F : Int → Fl) (k t ph : Int) : Clk := chargeF (F k).p (F k).c (atF t) ph 0 0
/-- picked, and not yet pushed again -/
def UpPick (m : Nat) (F : Int → Fl) (t : Int) (Z s : Nat) (w : World) (e : Ending) (w' : World) : Prop :=
  ∃ (k ph : Int) (it : Itm) (ok : Bool), e = .returned (.tuple #[.int .i64 k, .agg #[.int .i64 it.na, .int .i64 it.de, .int .i64 it.rh], .int .i64 ph, .bool ok]) ∧ KeptS Z w w' ∧
    ((ok = false ∧ SchAt w' Z s (ksN m) F ∧ Next (ksN m) F (atF t) 0 0 false) ∨ (ok = true ∧ ∃ (j : Nat) (f : Fl), k = j ∧ j < m ∧ Next (ksN m) F (atF t) j ph true ∧ f.p = (F j).p ∧ f.c = cPick F j t ph ∧ plain f.q 2 ∧ SchAt w' Z s (ksN m) (updF F j f)))
theorem up_pick {w : World} {Z s m : Nat} {F : Int → Fl} {l : List Pol} {t : Int} (H : SchAt w Z s (ksN m) F) (hU : UpF l m F) (hm : m ≤ 6) (ht : In64 t) (hB : Z ≤ w.heap.size) :
    Calls Try.prog 13 #[.pointer (some ⟨s, 0, none⟩), .int .i64 t] w (UpPick m F t Z s w) := by
  refine (Pick_any Z s (ksN m) F t w H ht (by rw [ksN_len]; omega) hB).mono ?_
  rintro e w' ⟨k, it, ph, ok, F', rfl, h1, h2, -, h4⟩
  unfold UpPick
  rcases h4 with ⟨rfl, r, hk, hq, hN, rfl⟩ | ⟨rfl, _, _, _, rfl, hN⟩
  · obtain ⟨j, hj, rfl⟩ := ksN_mem.1 hk
    obtain ⟨q1, q2⟩ := hU.q j hj
    rw [hq] at q1 q2
    obtain ⟨d1, d2⟩ := q2 it List.mem_cons_self
    refine ⟨j, ph, it, true, rfl, h2, .inr ⟨rfl, j, takenFl (F j) (atF t) ph it r, rfl, hj, hN, rfl, ?_, ⟨by show r.length = 2; simpa using q1, fun i hi => q2 i (List.mem_cons_of_mem _ hi)⟩, h1⟩⟩
    show chargeF (F j).p (F j).c (atF t) ph it.de it.rh = cPick F j t ph
    rw [d1, d2]
    rfl
  · exact ⟨k, ph, it, false, rfl, h2, .inl ⟨rfl, h1, hN⟩⟩
/-- pushed again -/
def againFl (f : Fl) : Fl := pushFl f ⟨0, 0, 0⟩
theorem up_push {w : World} {Z s m j : Nat} {F : Int → Fl} {f : Fl} {t : Int} (H : SchAt w Z s (ksN m) (updF F j f)) (hj : j < m) (hm : m ≤ 6) (hq : plain f.q 2) (ht : In64 t) (hB : Z ≤ w.heap.size) :
    Calls Try.prog 14 #[.pointer (some ⟨s, 0, none⟩), .int .i64 (j : Int), .agg #[.int .i64 0, .int .i64 0, .int .i64 0], .int .i64 t] w (fun e w' => e = .returned (.int .i64 0) ∧ SchAt w' Z s (ksN m) (updF F j (againFl f)) ∧ KeptS Z w w') := by
  refine (SPush_any Z s (ksN m) _ j t ⟨0, 0, 0⟩ w H (by unfold In64; omega) (by unfold InT In64; decide) ht (by rw [ksN_len]; omega) hB).mono ?_
  rintro e w' ⟨F', rfl, h1, h2, h3⟩
  have hl : (updF F j f j).q.length = 2 := by rw [updF_same]; exact hq.1
  have ep : pushE (ksN m) (updF F j f) j = 0 := by unfold pushE; rw [if_pos (ksN_in hj), if_neg (by rw [hl]; decide)]
  have up0 : upF (updF F j f j) = true := (upF_iff _).2 fun e => by rw [e] at hl; cases hl
  refine ⟨by rw [ep], ?_, h2⟩
  rcases h3 with ⟨_, _, rfl⟩ | ⟨_, h, _⟩ | ⟨h, _⟩
  · rw [updF_upd, updF_same] at h1
    exact h1
  · rw [up0] at h; cases h
  · exact absurd ep h
theorem UpF.again {l : List Pol} {m j : Nat} {F : Int → Fl} {f : Fl} {t ph : Int} (h : UpF l m F) (hj : j < m) (hp : f.p = (F j).p) (hc : f.c = cPick F j t ph) (hq : plain f.q 2) : UpF l m (updF F j (againFl f)) := by
  refine ⟨fun k hk => ?_, fun k hk => ?_, fun k hk => ?_⟩
  all_goals
    by_cases e : (k : Int) = j
    · have e' : k = j := by omega
      subst e'
      rw [updF_same]
      first
        | exact ⟨by show l[k]? = some f.p; rw [hp]; exact (h.pol k hj).1, by show rightP f.p = true; rw [hp]; exact (h.pol k hj).2⟩
        | exact hq.push
        | (show tagsC f.c
           rw [hc]
           exact charge_tags (h.tags k hj))
    · rw [updF_other e]
      first
        | exact h.pol k hk
        | exact h.q k hk
        | exact h.tags k hk
end Go.Proofs.Ytbfjakchgmdldaa
