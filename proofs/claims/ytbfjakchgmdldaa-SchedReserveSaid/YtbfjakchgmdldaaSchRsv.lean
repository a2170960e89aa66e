/-
  SchedReserve: the flows beside the reservation as numbers (SchRes); its own memory: an array of six counts, and one of 81 such arrays. Conditions: what each names.
-/
import Derived.Test.YtbfjakchgmdldaaSchM
import Derived.Test.YtbfjakchgmdldaaSchRes
import Derived.Deep.WholeRow
import Derived.Deep.MidRow
namespace Go.Proofs.Ytbfjakchgmdldaa
open Go.ChangeShapes Go.WideShapes Go.ChangeAt Go.RowKit
set_option linter.unusedVariables false

/-! ### the flows as numbers -/
def sN (l : List Pol) (k : Nat) : Nat := match l[k]? with
  | some p => (spaceF p.re).toNat
  | none => 0
theorem spaceF_bd2 (a : Int) : 0 ≤ spaceF a ∧ spaceF a ≤ 65536000 := by
  unfold spaceF
  split
  · exact ⟨Int.ediv_nonneg (by omega) (by omega), Int.ediv_le_self _ (by omega)⟩
  · omega
theorem sN_is {l : List Pol} {k : Nat} {p : Pol} (h : l[k]? = some p) : ((sN l k : Nat) : Int) = spaceF p.re := by
  unfold sN
  rw [h]
  have := (spaceF_bd2 p.re).1
  show ((spaceF p.re).toNat : Int) = _
  omega
theorem sN_le (l : List Pol) (k : Nat) : sN l k ≤ 65536000 := by
  unfold sN
  cases h : l[k]? with
  | none => simp
  | some p =>
    have := (spaceF_bd2 p.re).2
    show (spaceF p.re).toNat ≤ 65536000
    omega
theorem sN_pos {l : List Pol} {k : Nat} {p : Pol} (h : l[k]? = some p) (hr : rightP p = true) : 0 < sN l k ↔ p.re ≠ 0 := by
  have e := sN_is h
  obtain ⟨r1, _⟩ := (rightP_iff _).1 hr
  by_cases h0 : p.re = 0
  · rw [h0, show spaceF 0 = 0 by decide] at e
    constructor
    · intro h; omega
    · intro h; exact absurd h0 h
  · have : 62 ≤ spaceF p.re := by
      unfold spaceF
      rw [if_pos (by omega)]
      exact Int.le_ediv_of_mul_le (by omega) (by omega)
    constructor
    · intro _; exact h0
    · intro _; omega
theorem load_is (l : List Pol) : ∀ k, k ≤ l.length → ((loadN (sN l) k : Nat) : Int) = loadP (l.take k)
  | 0, _ => rfl
  | k + 1, h => by
    have hk : l[k]? = some l[k] := List.getElem?_eq_getElem (by omega)
    rw [loadP_more hk]
    have ih := load_is l k (by omega)
    unfold loadN
    rw [Int.natCast_add, ih]
    have e := sN_is hk
    have : ((shN (sN l k) : Nat) : Int) = shP l[k] := by
      unfold shN shP shareF
      rw [← e]
      by_cases h0 : sN l k = 0
      · rw [if_pos h0, if_neg (by omega)]; rfl
      · rw [if_neg h0, if_pos (by omega)]
        rw [Int.natCast_add, Int.natCast_ediv]
        rfl
    rw [this]
/-- the flows' R is as many spaces as were picked by reservation; none has a limit -/
structure ResF (l : List Pol) (m : Nat) (c : Nat → Nat) (F : Int → Fl) : Prop where
  r : ∀ k : Nat, k < m → (F k).c.r = ((c k * sN l k : Nat) : Int)
  free : ∀ k : Nat, k < m → (F k).p.li = 0
theorem ResF.nil (l : List Pol) (c : Nat → Nat) (F : Int → Fl) : ResF l 0 c F := ⟨fun k h => absurd h (by omega), fun k h => absurd h (by omega)⟩
theorem ResF.more {l : List Pol} {i : Nat} {F : Int → Fl} {p : Pol} {x : Int} (h : ResF l i (fun _ => 0) F) (hl : p.li = 0) : ResF l (i + 1) (fun _ => 0) (updF F i (upFl p x)) := by
  refine ⟨fun k hk => ?_, fun k hk => ?_⟩
  all_goals
    by_cases e : (k : Int) = i
    · rw [e, updF_same]
      first
        | exact hl
        | (rw [Nat.zero_mul]; rfl)
    · rw [updF_other e]
      first
        | exact h.r k (by omega)
        | exact h.free k (by omega)
theorem ResF.due {l : List Pol} {m : Nat} {c : Nat → Nat} {F : Int → Fl} (h : ResF l m c F) (hU : UpF l m F) {x : Nat} {k : Nat} (hk : k < m) : Due (ksN m) F (x : Int) k ↔ 0 < sN l k ∧ c k * sN l k ≤ x := by
  obtain ⟨hp, hr⟩ := hU.pol k hk
  rw [sN_pos hp hr]
  unfold Due byReserveF byLimitF
  rw [h.r k hk, hr, hU.up hk, h.free k hk]
  simp only [Bool.true_and, decide_true, Bool.true_or, Bool.and_eq_true, decide_eq_true_eq, ksN_in hk, true_and, ne_eq]
  omega
/-- one pick: as the numbers say; cnt: of all -/
theorem ResF.pick {l : List Pol} {m j : Nat} {c : Nat → Nat} {F : Int → Fl} {f : Fl} {t : Nat} {ph : Int} (h : ResF l m c F) (hU : UpF l m F) (hj : j < m) (ht : t ≤ 1000) (hc1 : c j * sN l j ≤ 100000000000) (hN : Next (ksN m) F (atF t) j ph true) (hp : f.p = (F j).p) (hc : f.c = cPick F j t ph) :
    ∃ c', PickN (sN l) c c' m (65536 * t) ∧ (c' = c ∨ c' = bump c j) ∧ ResF l m c' (updF F j (againFl f)) := by
  obtain ⟨hl, hr⟩ := hU.pol j hj
  have ea : atF t = ((65536 * t : Nat) : Int) := by rw [atF_small (by omega) (by omega)]; omega
  have hg : goesF (F j).p ph = true := by
    unfold goesF
    rw [hr]
    rcases hN.by_limit.2 with rfl | rfl <;> rfl
  have hrr : f.c.r = growF (F j).c.r (spaceF (F j).p.re) (resF ph 0) := by
    rw [hc]
    unfold cPick chargeF
    rw [if_pos hg]
    rfl
  have hsb := spaceF_bd2 (F j).p.re
  rw [ea] at hN
  have key : ∀ c' : Nat → Nat, (∀ k, k ≠ j → c' k = c k) → f.c.r = ((c' j * sN l j : Nat) : Int) → ResF l m c' (updF F j (againFl f)) := fun c' h1 h2 => by
    refine ⟨fun k hk => ?_, fun k hk => ?_⟩
    · by_cases e : (k : Int) = j
      · have e' : k = j := by omega
        subst e'
        rw [updF_same]
        exact h2
      · rw [updF_other e, h1 k (by omega)]
        exact h.r k hk
    · by_cases e : (k : Int) = j
      · rw [e, updF_same]
        show f.p.li = 0
        rw [hp]
        exact h.free j hj
      · rw [updF_other e]
        exact h.free k hk
  rcases hN with ⟨_, rfl, hf⟩ | ⟨_, rfl, hd, hf⟩ | ⟨h, _⟩
  · obtain ⟨d1, d2⟩ := (h.due hU hj).1 hf.1
    refine ⟨bump c j, .inr ⟨j, hj, d1, d2, fun k hk hs => ?_, rfl⟩, .inr rfl, key _ (fun k hk => if_neg hk) ?_⟩
    · by_cases hkj : k = j
      · rw [hkj]; exact Nat.le_refl _
      · by_cases hle : c k * sN l k ≤ 65536 * t
        · have := hf.2 k ((h.due hU hk).2 ⟨hs, hle⟩) (by omega)
          unfold ahead kR at this
          simp only at this
          rw [h.r j hj, h.r k hk] at this
          omega
        · omega
    · rw [hrr, show resF 1 0 = 1 by decide, h.r j hj, growF_one (by omega) (by omega) hsb.1 hsb.2, ← sN_is hl]
      unfold bump
      rw [if_pos rfl, Nat.add_mul, Nat.one_mul]
      omega
  · refine ⟨c, .inl ⟨?_, rfl⟩, .inl rfl, key c (fun _ _ => rfl) ?_⟩
    · rintro ⟨k, hk, hs, hle⟩
      exact hd k ((h.due hU hk).2 ⟨hs, hle⟩)
    · rw [hrr, show resF 2 0 = 0 by decide, h.r j hj]
      unfold growF
      rw [timesF_small hsb.1 hsb.2 (by omega) (by omega), Int.mul_zero]
      unfold addF
      rw [holdF_tag ⟨by omega, by omega⟩, holdF_tag ⟨by omega, by omega⟩, if_neg (by omega)]
      omega
  · cases h
theorem ResF.none {l : List Pol} {m : Nat} {c : Nat → Nat} {F : Int → Fl} {t : Nat} (h : ResF l m c F) (hU : UpF l m F) (ht : t ≤ 1000) (hN : Next (ksN m) F (atF t) 0 0 false) : PickN (sN l) c c m (65536 * t) := by
  have ea : atF t = ((65536 * t : Nat) : Int) := by rw [atF_small (by omega) (by omega)]; omega
  rw [ea] at hN
  refine .inl ⟨?_, rfl⟩
  rintro ⟨k, hk, hs, hle⟩
  rcases hN with ⟨h, _⟩ | ⟨h, _⟩ | ⟨_, _, _, h2⟩
  · cases h
  · cases h
  · exact h2 k (due_free ((h.due hU hk).2 ⟨hs, hle⟩))

/-! ### the counts, and what they were at the ends of ticks -/
/-- C, D: picked by reservation, and of all, at the end of each tick up to t; c, cnt: now -/
structure Hist (l : List Pol) (m t : Nat) (c cnt : Nat → Nat) (C D : Nat → Nat → Nat) : Prop where
  rise : ∀ a, a ≤ t → ∀ k, k < m → C a k ≤ c k ∧ c k + D a k ≤ cnt k + C a k
  low : ∀ a, a ≤ t → ∀ k, k < m → C a k * sN l k ≤ 65536 * a + sN l k
theorem Hist.start (l : List Pol) (m : Nat) : Hist l m 0 (fun _ => 0) (fun _ => 0) (fun _ _ => 0) (fun _ _ => 0) := ⟨fun a _ k _ => by omega, fun a _ k _ => by omega⟩
theorem Hist.pick {l : List Pol} {m t j : Nat} {c c' cnt : Nat → Nat} {C D : Nat → Nat → Nat} (h : Hist l m t c cnt C D) (hc : c' = c ∨ c' = bump c j) : Hist l m t c' (bump cnt j) C D := by
  refine ⟨fun a ha k hk => ?_, h.low⟩
  have := h.rise a ha k hk
  rcases hc with rfl | rfl <;> unfold bump <;> split <;> omega
def putT (C : Nat → Nat → Nat) (t : Nat) (c : Nat → Nat) : Nat → Nat → Nat := fun a => if a = t then c else C a
theorem Hist.tick {l : List Pol} {m t : Nat} {c cnt : Nat → Nat} {C D : Nat → Nat → Nat} (h : Hist l m t c cnt C D) (hc : ∀ k, k < m → c k * sN l k ≤ 65536 * (t + 1) + sN l k) : Hist l m (t + 1) c cnt (putT C (t + 1) c) (putT D (t + 1) cnt) := by
  refine ⟨fun a ha k hk => ?_, fun a ha k hk => ?_⟩
  · unfold putT
    by_cases e : a = t + 1
    · rw [if_pos e, if_pos e]; omega
    · rw [if_neg e, if_neg e]; exact h.rise a (by omega) k hk
  · unfold putT
    by_cases e : a = t + 1
    · rw [if_pos e, e]; exact hc k hk
    · rw [if_neg e]; exact h.low a (by omega) k hk
/-- what the law asks -/
theorem Hist.asks {l : List Pol} {m t a i : Nat} {c cnt : Nat → Nat} {C D : Nat → Nat → Nat} (h : Hist l m t c cnt C D) (hA : AtEnd (sN l) c m t) (ha : a ≤ t) (hi : i < m) (hs : 0 < sN l i) :
    ((65536 * (t - a) / sN l i : Nat) : Int) - m - 2 ≤ (cnt i : Int) - D a i := by
  have h1 := not_behind hA hi hs
  have h2 := span_has hs (h.low a ha i hi) h1 ha
  have h3 := h.rise a ha i hi
  omega

/-! ### in memory -/
def cntRow (c : Nat → Nat) : Array Value := #[.int .i64 (c 0 : Int), .int .i64 (c 1 : Int), .int .i64 (c 2 : Int), .int .i64 (c 3 : Int), .int .i64 (c 4 : Int), .int .i64 (c 5 : Int)]
theorem six_of {k : Nat} (h : k < 6) : k = 0 ∨ k = 1 ∨ k = 2 ∨ k = 3 ∨ k = 4 ∨ k = 5 := by omega
theorem cntRow_at (c : Nat → Nat) {k : Nat} (hk : k < 6) : (cntRow c)[k]? = some (.int .i64 (c k : Int)) := by
  rcases six_of hk with rfl | rfl | rfl | rfl | rfl | rfl <;> rfl
theorem cntRow_bump (c : Nat → Nat) {k : Nat} (hk : k < 6) : (cntRow c).setIfInBounds k (.int .i64 ((c k : Int) + 1)) = cntRow (bump c k) := by
  rcases six_of hk with rfl | rfl | rfl | rfl | rfl | rfl <;> rfl
def CntAt (w : World) (g : Nat) (c : Nat → Nat) : Prop := w.heap[g]? = some (.cells (cntRow c) 43 (0, 0))
/-- what was counted at the ends of the ticks up to t -/
def AllAt (w : World) (g t : Nat) (D : Nat → Nat → Nat) : Prop := (∃ cs, w.heap[g]? = some (.cells cs 44 (0, 0)) ∧ cs.size = 486) ∧ ∀ a, a ≤ t → ∀ k, k < 6 → w.cell? ⟨g, a * 6 + k, none⟩ = some (.int .i64 (D a k : Int))
theorem CntAt.turned {p : Nat → Prop} {w w' : World} {g : Nat} {c : Nat → Nat} (h : CntAt w g c) (ht : Turned p w w') (hp : ¬ p g) : CntAt w' g c := ht.heap h hp
theorem AllAt.turned {p : Nat → Prop} {w w' : World} {g t : Nat} {D : Nat → Nat → Nat} (h : AllAt w g t D) (ht : Turned p w w') (hp : ¬ p g) : AllAt w' g t D := by
  obtain ⟨⟨cs, h1, h2⟩, h3⟩ := h
  exact ⟨⟨cs, ht.heap h1 hp, h2⟩, fun a ha k hk => ht.cell (h3 a ha k hk) hp⟩
theorem CntAt.below {w w' : World} {g : Nat} {c : Nat → Nat} (h : CntAt w g c) (hb : Below w.heap.size w w') : CntAt w' g c := h.turned (p := fun _ => False) (.of_below hb) fun e => e
theorem AllAt.below {w w' : World} {g t : Nat} {D : Nat → Nat → Nat} (h : AllAt w g t D) (hb : Below w.heap.size w w') : AllAt w' g t D := h.turned (p := fun _ => False) (.of_below hb) fun e => e
theorem mayS_not {B : Nat} {w : World} {g : Nat} {cs : Array Value} {T : TypeId} (h : w.heap[g]? = some (.cells cs T (0, 0))) (hT : ¬ TouchS T) : ¬ MayS B w g := by
  rintro ⟨_, ⟨cs', T', fr', e, e2⟩ | ⟨es, c, e⟩⟩
  · rw [h] at e
    injection e with e
    injection e with _ e
    exact hT (e ▸ e2)
  · rw [h] at e; cases e
theorem CntAt.kept {B : Nat} {w w' : World} {g : Nat} {c : Nat → Nat} (h : CntAt w g c) (hk : KeptS B w w') : CntAt w' g c := h.turned hk (mayS_not h (by unfold TouchS; decide))
theorem AllAt.kept {B : Nat} {w w' : World} {g t : Nat} {D : Nat → Nat → Nat} (h : AllAt w g t D) (hk : KeptS B w w') : AllAt w' g t D := by
  obtain ⟨cs, h1, h2⟩ := h.1
  exact h.turned hk (mayS_not h1 (by unfold TouchS; decide))
/-- the array of arrays' zero value: behind a name, so that no walk opens it -/
def zAll : Array Value := Array.replicate 486 (.int .i64 0)
def zAllV : Value := .agg zAll
theorem zAll_run (w : World) : (zeroValue 44).run Try.prog w = .ok (.agg zAll) w := (zero_of_info (n := 486) (v := zAllV) (by kernel_rfl)).1 w
theorem AllAt.new (w : World) : AllAt (w.alloc (.cells zAll 44)) w.heap.size 0 (fun _ _ => 0) := by
  have h := heap_alloc_new w (.cells zAll 44)
  refine ⟨⟨zAll, h, by simp [zAll]⟩, fun a ha k hk => ?_⟩
  rw [row_cell h]
  unfold zAll
  rw [Array.getElem?_replicate, if_pos (by omega)]
  rfl
theorem setCells_row {g : Nat} {T : TypeId} : ∀ (vs : List Value) (o : Nat) (w : World) (cs : Array Value), w.heap[g]? = some (.cells cs T (0, 0)) → ∃ cs', (w.setCells g o vs).heap[g]? = some (.cells cs' T (0, 0)) ∧ cs'.size = cs.size
  | [], _, _, cs, h => ⟨cs, h, rfl⟩
  | u :: r, o, w, cs, h => by
    obtain ⟨cs', h1, h2⟩ := setCells_row r (o + 1) (w.setCell ⟨g, o, none⟩ u) _ (row_set h o u)
    exact ⟨cs', h1, by rw [h2]; simp⟩
/-- a whole array of six counts: its load and its store, behind names -/
def ldCnt (p : Value) : Sem Value := Instr.loadAt 43 p
theorem ldCnt_eq (p : Value) : Instr.loadAt 43 p = ldCnt p := rfl
def stCnt (p v : Value) : Sem Unit := Instr.storeAt 43 p v
theorem stCnt_eq (p v : Value) : Instr.storeAt 43 p v = stCnt p v := rfl
theorem cnt_und : Try.prog.underlying 43 = some (.array 6 3) := by kernel_rfl
theorem cnt_info : (Try.prog.info? 43).map (·.size) = some 6 := by kernel_rfl
theorem ldCnt_run {w : World} {g : Nat} {c : Nat → Nat} (h : CntAt w g c) : (ldCnt (.pointer (some ⟨g, 0, none⟩))).run Try.prog w = .ok (.agg (cntRow c)) w := by
  have hr : w.rangeAt g 0 (cntRow c).toList := fun j v hv => by
    rw [row_cell h, Nat.zero_add, ← Array.getElem?_toList]
    exact hv
  exact run_loadAt_mid w g 0 43 (cntRow c).toList _ hr cnt_und rfl cnt_info
/-- a tick's counts are kept -/
theorem AllAt.put {w : World} {g t : Nat} {D : Nat → Nat → Nat} (h : AllAt w g t D) (ht : t + 1 ≤ 80) (c : Nat → Nat) :
    ∃ W, (stCnt (.pointer (some ⟨g, (t + 1) * 6, none⟩)) (.agg (cntRow c))).run Try.prog w = .ok () W ∧ AllAt W g (t + 1) (putT D (t + 1) c) ∧ Turned (fun j => j = g) w W := by
  obtain ⟨⟨cs, h1, h2⟩, h3⟩ := h
  have hth : w.there g ((t + 1) * 6) 6 := fun j hj => ⟨by rw [row_cell h1, Array.getElem?_eq_getElem (by omega)]; rfl, row_frozen h1 _⟩
  refine ⟨_, run_storeAt_mid w g ((t + 1) * 6) 43 (cntRow c) hth cnt_info (by simp [cntRow, Value.oneCell']), ⟨?_, fun a ha k hk => ?_⟩, turned_cells (p := fun j => j = g) (fun _ => rfl) _ _ _ (Turned.refl _ _)⟩
  · obtain ⟨cs', e1, e2⟩ := setCells_row (cntRow c).toList ((t + 1) * 6) w cs h1
    exact ⟨cs', e1, e2.trans h2⟩
  · unfold putT
    by_cases e : a = t + 1
    · rw [if_pos e, e]
      refine World.rangeAt_setCells_same w g ((t + 1) * 6) (cntRow c).toList hth k _ ?_
      rw [Array.getElem?_toList]
      exact cntRow_at c hk
    · rw [if_neg e, World.cell?_setCells_out g _ _ w ⟨g, a * 6 + k, none⟩ (fun _ _ => .inl (by show a * 6 + k < (t + 1) * 6; omega))]
      exact h3 a (by omega) k hk
/-! ### all of it, t ticks being done -/
structure RsvAt (w : World) (Z s g1 g2 : Nat) (l : List Pol) (m t b : Nat) (c cnt : Nat → Nat) (C D : Nat → Nat → Nat) (F : Int → Fl) : Prop where
  sch : SchAt w Z s (ksN m) F
  up : UpF l m F
  res : ResF l m c F
  low : ∀ k, k < m → c k * sN l k ≤ 65536 * (t + 1) + sN l k
  hist : Hist l m t c cnt C D
  cn : CntAt w g1 cnt
  al : AllAt w g2 t D
  bd : ∀ k, cnt k ≤ b
  base : Z ≤ g1 ∧ Z ≤ g2 ∧ g1 ≠ g2
section
variable {w : World} {Z s g1 g2 m t b : Nat} {l : List Pol} {c cnt : Nat → Nat} {C D : Nat → Nat → Nat} {F : Int → Fl}
theorem RsvAt.below {w' : World} (h : RsvAt w Z s g1 g2 l m t b c cnt C D F) (hb : Below w.heap.size w w') : RsvAt w' Z s g1 g2 l m t b c cnt C D F :=
  ⟨h.sch.below hb, h.up, h.res, h.low, h.hist, h.cn.below hb, h.al.below hb, h.bd, h.base⟩
theorem RsvAt.kept {B : Nat} {w' : World} (h : RsvAt w Z s g1 g2 l m t b c cnt C D F) (hk : KeptS B w w') (hs : SchAt w' Z s (ksN m) F) : RsvAt w' Z s g1 g2 l m t b c cnt C D F :=
  ⟨hs, h.up, h.res, h.low, h.hist, h.cn.kept hk, h.al.kept hk, h.bd, h.base⟩
theorem RsvAt.wider {b' : Nat} (h : RsvAt w Z s g1 g2 l m t b c cnt C D F) (hb : b ≤ b') : RsvAt w Z s g1 g2 l m t b' c cnt C D F :=
  ⟨h.sch, h.up, h.res, h.low, h.hist, h.cn, h.al, fun k => Nat.le_trans (h.bd k) hb, h.base⟩
/-- one is picked, counted, and pushed again -/
theorem RsvAt.step {w' : World} {j : Nat} {f : Fl} {ph : Int} (h : RsvAt w Z s g1 g2 l m t b c cnt C D F) (hj : j < m) (ht : t ≤ 90) (hN : Next (ksN m) F (atF ((t + 1 : Nat) : Int)) j ph true) (hp : f.p = (F j).p) (hc : f.c = cPick F j ((t + 1 : Nat) : Int) ph) (hq : plain f.q 2)
    (hs : SchAt w' Z s (ksN m) (updF F j (againFl f))) (hcn : CntAt w' g1 (bump cnt j)) (hal : AllAt w' g2 t D) :
    ∃ c', PickN (sN l) c c' m (65536 * (t + 1)) ∧ RsvAt w' Z s g1 g2 l m t (b + 1) c' (bump cnt j) C D (updF F j (againFl f)) := by
  have hlow := h.low j hj
  have hsl := sN_le l j
  obtain ⟨c', h1, h2, h3⟩ := h.res.pick h.up hj (t := t + 1) (by omega) (by omega) hN hp hc
  refine ⟨c', h1, hs, h.up.again hj hp hc hq, h3, pick_within h1 h.low, h.hist.pick h2, hcn, hal, fun k => ?_, h.base⟩
  have := h.bd k
  unfold bump
  split <;> omega
/-- none is picked -/
theorem RsvAt.idle (h : RsvAt w Z s g1 g2 l m t b c cnt C D F) (ht : t ≤ 90) (hN : Next (ksN m) F (atF ((t + 1 : Nat) : Int)) 0 0 false) : PickN (sN l) c c m (65536 * (t + 1)) := h.res.none h.up (by omega) hN
/-- a tick is done -/
theorem RsvAt.tick {w' : World} (h : RsvAt w Z s g1 g2 l m t b c cnt C D F) (hal : AllAt w' g2 (t + 1) (putT D (t + 1) cnt)) (ht : Turned (fun j => j = g2) w w') : RsvAt w' Z s g1 g2 l m (t + 1) b c cnt (putT C (t + 1) c) (putT D (t + 1) cnt) F := by
  obtain ⟨cs, h1, h2⟩ := h.al.1
  refine ⟨h.sch.turned ht fun k hk o ho => ?_, h.up, h.res, fun k hk => ?_, h.hist.tick h.low, h.cn.turned ht h.base.2.2, hal, h.bd, h.base⟩
  · rw [hk, h1] at ho
    injection ho with ho
    exact ⟨_, _, _, ho.symm, by unfold TouchS; decide⟩
  · have := h.low k hk
    omega
theorem cnt_store {w' : World} {k : Nat} {G : Int → Fl} (hs : SchAt w Z s (ksN m) G) (hc : CntAt w g1 cnt) (ha : AllAt w g2 t D) (hk : k < 6) (hg : g1 ≠ g2) (hw : w.setCell ⟨g1, k, none⟩ (.int .i64 ((cnt k : Int) + 1)) = w') :
    SchAt w' Z s (ksN m) G ∧ CntAt w' g1 (bump cnt k) ∧ AllAt w' g2 t D ∧ Turned (fun j => j = g1) w w' := by
  subst hw
  have ht : Turned (fun j => j = g1) w (w.setCell ⟨g1, k, none⟩ (.int .i64 ((cnt k : Int) + 1))) := set_wo (g := g1) k _
  refine ⟨hs.turned ht fun j hj o ho => ?_, ?_, ha.turned ht fun e => hg e.symm, ht⟩
  · rw [hj, hc] at ho
    injection ho with ho
    exact ⟨_, _, _, ho.symm, by unfold TouchS; decide⟩
  · have := row_set hc k (.int .i64 ((cnt k : Int) + 1))
    rw [cntRow_bump cnt hk] at this
    exact this
end
theorem admits_parts {n : Int} {l : List Pol} (h : admitsP n l = true) : (1 ≤ n ∧ n ≤ 64) ∧ (∀ (k : Nat) p, l[k]? = some p → rightP p = true) ∧ loadP l ≤ n * 16777216 := by
  unfold admitsP allP at h
  simp only [Bool.and_eq_true, decide_eq_true_eq, List.all_eq_true] at h
  exact ⟨h.1.1.1, fun k p hp => h.1.2 p (List.mem_of_getElem? hp), h.2⟩
end Go.Proofs.Ytbfjakchgmdldaa
