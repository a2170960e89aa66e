/-
  Loads (a number, and how many chunks) as cells; rows of elements of several cells; a slice of loads as an argument, opened. Conditions: what each names.
-/
import Derived.Test.YtfigohlgckandaaHeapMath
import Derived.Test.YtfigohlgckandaaKept
import Derived.Test.YtfigohlgckandaaNums
import Derived.Test.YtfigohlgckandaaFields
import Derived.Test.YtfigohlgckandaaProg
namespace Go.Proofs.Ytfigohlgckandaa
open Go.ChangeShapes Go.WideShapes Go.ChangeAt Go.RowKit
set_option linter.unusedVariables false

/-! ### rows of elements of several cells -/
theorem own_formM {w : World} {base : Nat} {e : TypeId} {z : Nat} {v : Value} {n : Nat} {xs : List Value} (h : w.ownsRow base e z v n xs) : ∃ A c, v = .slice A n c := by
  rcases h.2 with ⟨rfl, rfl⟩ | ⟨g, cap, cur, rfl, _⟩
  · exact ⟨_, _, rfl⟩
  · exact ⟨_, _, rfl⟩
theorem own_turnedM {p : Nat → Prop} {w w' : World} {base z : Nat} {e : TypeId} {v : Value} {n : Nat} {xs : List Value} (h : Turned p w w') (ho : w.ownsRow base e z v n xs) (hn : ∀ k, v.ownBlock = some k → ¬ p k) : w'.ownsRow base e z v n xs := by
  refine ⟨ho.1, ?_⟩
  rcases ho.2 with h2 | ⟨g, cap, cur, rfl, hg, hh, r⟩
  · exact .inl h2
  · exact .inr ⟨g, cap, cur, rfl, hg, h.heap hh (hn g rfl), r⟩
theorem own_belowM {w w' : World} {b : Nat} {e : TypeId} {z : Nat} {v : Value} {n : Nat} {xs : List Value} (h : w.ownsRow b e z v n xs) (hb : Below w.heap.size w w') : w'.ownsRow b e z v n xs := own_turnedM (Turned.of_below (p := fun _ => False) hb) h fun _ _ e => e
theorem row_blockM {w : World} {base z n : Nat} {e : TypeId} {v : Value} {xs : List Value} (h : w.ownsRow base e z v n xs) {k : Nat} (hk : v.ownBlock = some k) : ∃ cs, w.heap[k]? = some (.cells cs e (0, 0)) := by
  rcases h.2 with ⟨rfl, _⟩ | ⟨g, cap, cur, rfl, _, hh, _⟩
  · cases hk
  · injection hk with hk
    subst hk
    exact ⟨cur, hh⟩
theorem own_baseM {w : World} {b b' : Nat} {e : TypeId} {z : Nat} {v : Value} {n : Nat} {xs : List Value} (h : w.ownsRow b e z v n xs) (hb : b' ≤ b) : w.ownsRow b' e z v n xs := by
  refine ⟨h.1, ?_⟩
  rcases h.2 with h2 | ⟨g, cap, cur, rfl, hg, r⟩
  · exact .inl h2
  · exact .inr ⟨g, cap, cur, rfl, Nat.le_trans hb hg, r⟩

/-! ### entries as cells -/
def entV (e : Ent) : List Value := [.int .i64 e.1, .int .i64 e.2]
def entsV (t : List Ent) : List Value := t.flatMap entV
theorem entsV_append (x y : List Ent) : entsV (x ++ y) = entsV x ++ entsV y := by simp [entsV]
theorem entsV_length (x : List Ent) : (entsV x).length = x.length * 2 := by
  induction x with
  | nil => rfl
  | cons p r ih =>
    have : (entsV (p :: r)).length = 2 + (entsV r).length := by simp [entsV, entV]; omega
    rw [this, ih, List.length_cons]; omega
theorem entsV_get : ∀ {x : List Ent} {i : Nat} {p : Ent}, x[i]? = some p → (entsV x)[i * 2]? = some (.int .i64 p.1) ∧ (entsV x)[i * 2 + 1]? = some (.int .i64 p.2)
  | [], _, _, h => by simp at h
  | q :: r, 0, p, h => by
    simp at h
    subst h
    exact ⟨rfl, rfl⟩
  | q :: r, i + 1, p, h => by
    have := entsV_get (x := r) (i := i) (p := p) (by simpa using h)
    have e1 : (i + 1) * 2 = (i * 2) + 1 + 1 := by omega
    rw [e1]
    exact this
theorem entsV_one (x : List Ent) : ∀ u ∈ entsV x, u.oneCell' = true := by
  intro u hu
  simp only [entsV, List.mem_flatMap, entV, List.mem_cons, List.not_mem_nil, or_false] at hu
  obtain ⟨p, _, rfl | rfl⟩ := hu <;> rfl
theorem entsV_take (x : List Ent) (i : Nat) : (entsV x).take (i * 2) = entsV (x.take i) := by
  by_cases h : i ≤ x.length
  · have e : entsV x = entsV (x.take i) ++ entsV (x.drop i) := by rw [← entsV_append, List.take_append_drop]
    rw [e, List.take_append_of_le_length (by rw [entsV_length, List.length_take]; omega), List.take_of_length_le (by rw [entsV_length, List.length_take]; omega)]
  · rw [List.take_of_length_le (by rw [entsV_length]; omega), List.take_of_length_le (by omega)]
theorem entsV_drop (x : List Ent) (i : Nat) : (entsV x).drop (i * 2) = entsV (x.drop i) := by
  by_cases h : i ≤ x.length
  · have e : entsV x = entsV (x.take i) ++ entsV (x.drop i) := by rw [← entsV_append, List.take_append_drop]
    have hl : (entsV (x.take i)).length = i * 2 := by rw [entsV_length, List.length_take]; omega
    rw [e, ← hl, List.drop_left]
  · rw [List.drop_eq_nil_of_le (by rw [entsV_length]; omega), List.drop_eq_nil_of_le (by omega)]; rfl
theorem entsV_set : ∀ (x : List Ent) (i : Nat) (p : Ent), ((entsV x).set (i * 2) (.int .i64 p.1)).set (i * 2 + 1) (.int .i64 p.2) = entsV (x.set i p)
  | [], i, p => by simp [entsV]
  | q :: r, 0, p => rfl
  | q :: r, i + 1, p => by
    have e1 : (i + 1) * 2 = (i * 2) + 1 + 1 := by omega
    rw [e1]
    show _ :: _ :: ((entsV r).set (i * 2) _).set (i * 2 + 1) _ = _
    rw [entsV_set r i p]
    rfl
theorem entsV_inj : ∀ {x y : List Ent}, entsV x = entsV y → x = y
  | [], [], _ => rfl
  | [], q :: r, h => by simp [entsV, entV] at h
  | q :: r, [], h => by simp [entsV, entV] at h
  | p :: r, q :: s, h => by
    have h' : Value.int .i64 p.1 :: Value.int .i64 p.2 :: entsV r = Value.int .i64 q.1 :: Value.int .i64 q.2 :: entsV s := h
    injection h' with h1 h2
    injection h2 with h2 h3
    injection h1 with _ h1
    injection h2 with _ h2
    rw [entsV_inj h3]
    congr 1
    exact Prod.ext h1 h2

theorem Seen.ent {w : World} {A : Option Addr} {l : List Ent} (h : Seen w A (entsV l)) {i : Nat} {r : Ent} (hi : l[i]? = some r) :
    ∃ g o, A = some ⟨g, o, none⟩ ∧ w.cell? ⟨g, o + i * 2, none⟩ = some (.int .i64 r.1) ∧ w.cell? ⟨g, o + i * 2 + 1, none⟩ = some (.int .i64 r.2) := by
  have hl := (List.getElem?_eq_some_iff.1 hi).1
  obtain ⟨e0, e1⟩ := entsV_get hi
  rcases h with h | ⟨g, o, hA, hc⟩
  · have := entsV_length l
    rw [h] at this
    simp at this
    omega
  · exact ⟨g, o, hA, hc _ _ e0, by have := hc _ _ e1; rwa [← Nat.add_assoc] at this⟩
theorem seen_ownE {w : World} {B n c : Nat} {e : TypeId} {A : Option Addr} {l : List Ent} (h : w.ownsRow B e 2 (.slice A n c) n (entsV l)) : Seen w A (entsV l) := by
  rcases h.2 with ⟨hv, hn⟩ | ⟨g, cap, cur, hv, _⟩
  · have h1 := h.1
    rw [hn, Nat.zero_mul, List.length_eq_zero_iff] at h1
    exact .inl h1
  · injection hv with hv _ hc
    subst hv; subst hc
    refine .inr ⟨g, 0, rfl, fun j v hv => ?_⟩
    have hj := (List.getElem?_eq_some_iff.1 hv).1
    have h1 := h.1
    rw [Nat.zero_add, h.cellAt _ (by omega)]
    exact hv

theorem load_info : (Try.prog.info? 31).map (fun i => (i.zero, i.size, i.bytes)) = some (some (.agg #[.int .i64 0, .int .i64 0]), 2, 16) := by kernel_rfl
theorem int_info : (Try.prog.info? 3).map (fun i => (i.zero, i.size, i.bytes)) = some (some (.int .i64 0), 1, 8) := by kernel_rfl
theorem own_capL {w : World} {base n c z : Nat} {A : Option Addr} {e : TypeId} {xs : List Value} (h : w.ownsRow base e z (.slice A n c) n xs) : n ≤ c ∧ c ≤ maxLen := by
  rcases h.2 with ⟨hv, _⟩ | ⟨g', cap, cur, hv, _, _, h1, h2, _⟩
  · injection hv with _ h2 h3
    subst h2; subst h3
    exact ⟨Nat.le_refl _, Nat.zero_le _⟩
  · injection hv with _ _ h3
    subst h3
    exact ⟨h1, h2⟩
theorem take_snocE {α : Type} {x : List α} {i : Nat} {r : α} (h : x[i]? = some r) : x.take (i + 1) = x.take i ++ [r] := by
  obtain ⟨hk, rfl⟩ := List.getElem?_eq_some_iff.1 h
  exact List.take_succ_eq_append_getElem hk
theorem new_load (w : World) (l : Ent) : ∃ W, w.alloc (.cells #[.int .i64 l.1, .int .i64 l.2] 31) = W ∧ Below w.heap.size w W ∧ W.cell? ⟨w.heap.size, 0, none⟩ = some (.int .i64 l.1) ∧ W.cell? ⟨w.heap.size, 1, none⟩ = some (.int .i64 l.2) ∧ Seen W (some ⟨w.heap.size, 0, none⟩) (entsV [l]) :=
  ⟨_, rfl, (Below.refl _ _).alloc (Nat.le_refl _) _, (new_two _ _ _ _).1, (new_two _ _ _ _).2, Seen.of_cells (heap_alloc_new w _)⟩
/-- a slice that a call made itself -/
def IntsRet (x : List Int) (w : World) (en : Ending) (w' : World) : Prop :=
  ∃ A c, en = .returned (.slice A x.length c) ∧ w'.ownsRow w.heap.size 3 1 (.slice A x.length c) x.length (numsV x) ∧ Below w.heap.size w w'
def LoadsRet (x : List Ent) (w : World) (en : Ending) (w' : World) : Prop :=
  ∃ A c, en = .returned (.slice A x.length c) ∧ w'.ownsRow w.heap.size 31 2 (.slice A x.length c) x.length (entsV x) ∧ Below w.heap.size w w'

section
variable {H : Type} {enc : TypeId × Value → H} {P : Program}
theorem open_loads {W : World} {base : Nat} {v : Value} {d : DataW H} {p : List MemPlace} {tl te : TypeId} {fs : Array Field} {f0 f1 : Field} (hl : P.underlying tl = some (.slice te)) (he : P.underlying te = some (.struct fs)) (h0 : fs[0]? = some f0) (h1 : fs[1]? = some f1)
    (o0 : f0.offset = 0) (o1 : f1.offset = 1) (i0 : P.underlying f0.type = some (.int .i64)) (i1 : P.underlying f1.type = some (.int .i64))
    (c0 : P.cellsOf f0.type = 1) (c1 : P.cellsOf f1.type = 1) (ce : P.cellsOf te = 2) (hval : Value.okWide P W .any base tl v) (h : DataW.Trod enc P W 0 (fun _ => true) true tl v d p) :
    ∃ A n c, ∃ l : List Ent, v = .slice A n c ∧ l.length = n ∧ n ≤ c ∧ c ≤ maxLen ∧ Seen W A (entsV l) := by
  obtain ⟨a1, len, cap, rfl⟩ := okWide_slice hl hval
  obtain ⟨fuel, hf⟩ := h
  rcases Go.Deep.open_slice hl hf with ⟨hcs, hx⟩ | ⟨a, len', cap', m, n, D, Pl, hcs, _, hl1, hl2, hm, hx, hel⟩
  · simp [Value.cells] at hcs
    obtain ⟨rfl, rfl, rfl⟩ := hcs
    exact ⟨none, 0, 0, [], rfl, rfl, Nat.le_refl _, Nat.zero_le _, .inl rfl⟩
  · simp [Value.cells] at hcs
    obtain ⟨rfl, rfl, rfl⟩ := hcs
    simp only [if_true] at hm
    rw [ce] at hel
    by_cases hz : len = 0
    · subst hz
      exact ⟨some a, 0, cap, [], rfl, rfl, by omega, hl2, .inl rfl⟩
    have hspot : a.spot = none := by
      obtain ⟨cs', hc, _⟩ := hel 0 (by omega)
      obtain ⟨_, hcl, hat⟩ := World.cells?_some hc
      have h3 := hat 0 (by omega)
      rw [List.getElem?_eq_getElem (by omega)] at h3
      obtain ⟨g, o, sp⟩ := a
      simpa [Addr.add] using World.cell?_spot h3
    obtain ⟨g, o, sp⟩ := a
    simp only at hspot
    subst hspot
    obtain ⟨l, hll, hlp⟩ := list_of (n := len) (p := fun i (f : Ent) => W.cell? ⟨g, o + i * 2, none⟩ = some (.int .i64 f.1) ∧ W.cell? ⟨g, o + i * 2 + 1, none⟩ = some (.int .i64 f.2)) (fun i hi => by
      obtain ⟨cs', hc, ht⟩ := hel i (by omega)
      obtain ⟨_, hcl, hat⟩ := World.cells?_some hc
      obtain ⟨xs, n', _, _, _, hxl, hg⟩ := DataW.trod_struct he ht
      have e0 := hg 0 f0 h0
      have e1 := hg 1 f1 h1
      rw [o0, c0] at e0
      rw [o1, c1] at e1
      match cs', hcl with
      | [x0, x1], _ =>
        simp only [List.drop_zero, List.take_succ_cons, List.take_zero, List.drop_succ_cons] at e0 e1
        have hsz : ∀ j f, fs[j]? = some f → j < xs.length := fun j f hj => by rw [hxl]; exact (Array.getElem?_eq_some_iff.1 hj).1
        rw [List.getElem?_eq_getElem (hsz 0 _ h0)] at e0
        rw [List.getElem?_eq_getElem (hsz 1 _ h1)] at e1
        obtain ⟨v0, hb0, _, hw0⟩ := DataW.trod_int i0 e0
        obtain ⟨v1, hb1, _, hw1⟩ := DataW.trod_int i1 e1
        simp only [List.cons.injEq, and_true] at hb0 hb1
        subst hb0; subst hb1
        have q0 := hat 0 (by omega)
        have q1 := hat 1 (by omega)
        simp only [Addr.add_lit] at q0 q1
        exact ⟨(v0, v1), q0, q1⟩)
    refine ⟨_, len, cap, l, rfl, hll, hl1, hl2, .inr ⟨g, o, rfl, fun j u hu => ?_⟩⟩
    have hj := (List.getElem?_eq_some_iff.1 hu).1
    rw [entsV_length] at hj
    obtain ⟨q, hq⟩ : ∃ q, j / 2 = q := ⟨_, rfl⟩
    obtain ⟨r, hr⟩ : ∃ r, l[q]? = some r := ⟨_, List.getElem?_eq_getElem (by omega)⟩
    obtain ⟨c0, c1⟩ := hlp _ _ hr
    obtain ⟨e0, e1⟩ := entsV_get hr
    rcases (by omega : j = q * 2 ∨ j = q * 2 + 1) with h | h
    · rw [h] at hu ⊢
      rw [e0] at hu
      injection hu with hu
      rw [← hu]
      exact c0
    · rw [h] at hu ⊢
      rw [e1] at hu
      injection hu with hu
      rw [← hu, ← Nat.add_assoc]
      exact c1
end
end Go.Proofs.Ytfigohlgckandaa
