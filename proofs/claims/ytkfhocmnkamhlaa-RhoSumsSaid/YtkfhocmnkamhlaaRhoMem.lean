/-
  A tracker in memory (TrkAt): its struct, its map of counts; what keeps it; operations on a map of counts. Conditions: what each names.
-/
import Derived.Test.YtkfhocmnkamhlaaRhoMath
import Derived.Test.YtkfhocmnkamhlaaKept
import Derived.Test.YtkfhocmnkamhlaaProg
import Derived.Maps.RangeWalk
import Derived.Maps.OwnSet
import Derived.Laws.OwnMore
namespace Go.Proofs.Ytkfhocmnkamhlaa
open Go.ChangeShapes Go.WideShapes Go.ChangeAt Go.RowKit Go.Maps
set_option linter.unusedVariables false

def cnV (c : Cn) : Value := .agg #[.int .i64 c.1, .int .i64 c.2]
theorem keyed : Keyed Try.prog 3 := int_keyed Try.underlying3
theorem zero_cn (w : World) : (zeroValue 25).run Try.prog w = .ok (.agg #[.int .i64 0, .int .i64 0]) w := by kernel_rfl
theorem key_of {k : Int} (h1 : -9223372036854775808 ≤ k) (h2 : k ≤ 9223372036854775807) : keyOf Try.prog 3 (.int .i64 k) = some (.int .i64 k) :=
  keyOf_int_mk Try.underlying3 (WalkArith.wf_i64 (by omega))
def heldR (v : Value) : Option (DataW Value × List MemPlace) := some (.held v, [])
def encK (f : Int → Cn) (k : Int) : Lit × DataW Value := (.int .i64 k, .held (cnV (f k)))
def cntsD (ks : List Int) (f : Int → Cn) : DataW Value := .map (ks.map (encK f))
theorem encK_filter (x : List Int) (f : Int → Cn) (k : Int) : (x.map (encK f)).filter (fun p => !p.1.sameKey (.int .i64 k)) = (outK x k).map (encK f) := by
  rw [List.filter_map]
  congr 1
  apply List.filter_congr
  intro p _
  simp [encK, Lit.sameKey, Bool.not_eq_eq_eq_not]
  by_cases e : p = k <;> simp [e]
theorem insert_encK (f : Int → Cn) (p : Int) : ∀ x : List Int, DataW.insert (encK f p) (x.map (encK f)) = (insK p x).map (encK f)
  | [] => rfl
  | y :: r => by
    simp only [List.map_cons, DataW.insert, insK]
    by_cases hlt : p < y
    · have e : (encK f p).1.before (encK f y).1 = true := by simp [encK, Lit.before, hlt]
      rw [if_pos e, if_pos hlt]; rfl
    · have e : ¬ (encK f p).1.before (encK f y).1 = true := by simp [encK, Lit.before, hlt]
      rw [if_neg e, if_neg hlt, insert_encK f p r]; rfl
theorem cntsD_put (x : List Int) (f : Int → Cn) (k : Int) (v : Cn) : (cntsD x f).put (.int .i64 k) (.held (cnV v)) = cntsD (putK x k) (updC f k v) := by
  unfold cntsD DataW.put putK
  simp only
  rw [encK_filter]
  congr 1
  have e : (outK x k).map (encK f) = (outK x k).map (encK (updC f k v)) := by
    apply List.map_congr_left
    intro p hp
    simp only [encK, updC_other (mem_outK.1 hp).2]
  rw [e, ← insert_encK]
  congr 1
  simp only [encK, updC_same]
theorem cntsD_del (x : List Int) (f : Int → Cn) (k : Int) : (cntsD x f).del (.int .i64 k) = cntsD (outK x k) f := by
  unfold cntsD DataW.del
  simp only
  rw [encK_filter]
theorem cntsD_has (x : List Int) (f : Int → Cn) (k : Int) : has (cntsD x f) (.int .i64 k) = decide (k ∈ x) := by
  unfold cntsD
  rw [has_eq, List.any_map, Bool.eq_iff_iff]
  simp [encK, Lit.sameKey]
theorem cntsD_size (x : List Int) (f : Int → Cn) : Maps.size (cntsD x f) = x.length := by simp [cntsD, Maps.size]
theorem cntsD_at {x : List Int} {f : Int → Cn} {k : Int} {z : DataW Value} (hk : k ∈ x) : (cntsD x f).atKey (.int .i64 k) z = .held (cnV (f k)) := by
  unfold cntsD DataW.atKey
  simp only
  have : ∃ q ∈ x, q = k ∧ (x.map (encK f)).find? (fun q => q.1.sameKey (.int .i64 k)) = some (encK f q) := by
    cases hf : (x.map (encK f)).find? (fun q => q.1.sameKey (.int .i64 k)) with
    | none =>
      have := List.find?_eq_none.1 hf (encK f k) (List.mem_map.2 ⟨k, hk, rfl⟩)
      simp [encK, Lit.sameKey] at this
    | some y =>
      have h1 := List.find?_some hf
      obtain ⟨q, hq, rfl⟩ := List.mem_map.1 (List.mem_of_find?_eq_some hf)
      refine ⟨q, hq, ?_, rfl⟩
      simpa [encK, Lit.sameKey] using h1
  obtain ⟨q, hq, rfl, e⟩ := this
  rw [e]
  rfl
theorem cntsD_none {x : List Int} {f : Int → Cn} {k : Int} {z : DataW Value} (hk : ¬ k ∈ x) : (cntsD x f).atKey (.int .i64 k) z = z := by
  unfold cntsD DataW.atKey
  simp only
  have : (x.map (encK f)).find? (fun q => q.1.sameKey (.int .i64 k)) = none := by
    rw [List.find?_eq_none]
    intro y hy
    obtain ⟨q, hq, rfl⟩ := List.mem_map.1 hy
    intro hs
    have e : q = k := by simpa [encK, Lit.sameKey] using hs
    exact hk (e ▸ hq)
  rw [this]
/-- a map at b that has the names ks, each at its place -/
def CntsAt (w : World) (b : Nat) (ks : List Int) (f : Int → Cn) : Prop := w.ownsMap Try.prog 3 heldR b ks.length (cntsD ks f)
theorem map_turned {p : Nat → Prop} {w w' : World} {m n : Nat} {D : DataW Value} (h : w.ownsMap Try.prog 3 heldR m n D) (ht : Turned p w w') (hp : ¬ p m) : w'.ownsMap Try.prog 3 heldR m n D := by
  obtain ⟨es, clock, hb, F, hs, hD⟩ := h
  exact ⟨es, clock, ht.heap hb hp, F, hs, hD⟩
theorem map_lt {w : World} {m n : Nat} {D : DataW Value} (h : w.ownsMap Try.prog 3 heldR m n D) : ∃ es clock, w.heap[m]? = some (.map es clock) := by
  obtain ⟨es, clock, hb, _⟩ := h
  exact ⟨es, clock, hb⟩
theorem map_size {w : World} {m n : Nat} {D : DataW Value} (h : w.ownsMap Try.prog 3 heldR m n D) : w.ownsMap Try.prog 3 heldR m (Maps.size D) D := by
  obtain ⟨es, clock, hb, F, hs, rfl⟩ := h
  exact ⟨es, clock, hb, F, by simp [Maps.size, length_sorted], rfl⟩
theorem CntsAt.turned {p : Nat → Prop} {w w' : World} {b : Nat} {ks : List Int} {f : Int → Cn} (h : CntsAt w b ks f) (ht : Turned p w w') (hp : ¬ p b) : CntsAt w' b ks f := map_turned h ht hp
theorem CntsAt.made (w : World) (f : Int → Cn) : CntsAt (w.alloc (.map #[] 0)) w.heap.size [] f := World.ownsMap_made w _ _ _

theorem turned_of_map {w w' : World} {b : Nat} (h : w.mapTurned w' b) : Turned (fun k => k = b) w w' := Turned.of_grown h.grown (p := fun k => k = b) fun k e => by injection e with e; exact e.symm
theorem CntsAt.below {w w' : World} {b : Nat} {ks : List Int} {f : Int → Cn} (h : CntsAt w b ks f) (hb : Below w.heap.size w w') : CntsAt w' b ks f := h.turned (p := fun _ => False) (.of_below hb) id
/-- m[k] = c: it runs, and this is what stands then -/
theorem put_run {w : World} {b : Nat} {ks : List Int} {f : Int → Cn} {k : Int} (c : Cn) (h : CntsAt w b ks f) (h1 : -9223372036854775808 ≤ k) (h2 : k ≤ 9223372036854775807) (hl : ks.length ≤ 1000000) :
    ∃ w', (Instr.mapUpdate 26 (.map (some b)) (.int .i64 k) (.agg #[.int .i64 c.1, .int .i64 c.2])).run Try.prog w = .ok () w' ∧ CntsAt w' b (putK ks k) (updC f k c) ∧ Turned (fun k => k = b) w w' := by
  obtain ⟨w', hrun, hown, ht⟩ := World.ownsMap.store h keyed Try.underlying26 (by unfold maxLen; omega) (key_of h1 h2) (val := cnV c) (d := .held (cnV c)) (ps := []) rfl
  rw [cntsD_put] at hown
  have hsz := map_size hown
  rw [cntsD_size] at hsz
  exact ⟨w', hrun, hsz, turned_of_map ht⟩
/-- m[k] -/
theorem get_run {w : World} {b : Nat} {ks : List Int} {f : Int → Cn} {k : Int} (h : CntsAt w b ks f) (h1 : -9223372036854775808 ≤ k) (h2 : k ≤ 9223372036854775807) (h0 : ¬ k ∈ ks → f k = (0, 0)) :
    (Instr.lookup 26 (.map (some b)) (.int .i64 k) false).run Try.prog w = .ok (.agg #[.int .i64 (f k).1, .int .i64 (f k).2]) w := by
  obtain ⟨v, ps, hrun, hv⟩ := World.ownsMap.lookup h keyed Try.underlying26 (zero_cn w) (zd := .held (.agg #[.int .i64 0, .int .i64 0])) (zp := []) rfl (key_of h1 h2)
  simp only [heldR, Option.some.injEq, Prod.mk.injEq] at hv
  by_cases hk : k ∈ ks
  · rw [cntsD_at hk] at hv
    injection hv.1 with e
    rw [hrun, e]; rfl
  · rw [cntsD_none hk] at hv
    injection hv.1 with e
    rw [hrun, e, h0 hk]
/-- a map or nil, that has the names ks, and no other one's count isn't nothing -/
def MapC (w : World) (B : Nat) (m : Option Nat) (ks : List Int) (f : Int → Cn) : Prop := (∀ k, ¬ k ∈ ks → f k = (0, 0)) ∧ ((m = none ∧ ks = []) ∨ ∃ b, m = some b ∧ B ≤ b ∧ CntsAt w b ks f)
theorem MapC.get {w : World} {B : Nat} {m : Option Nat} {ks : List Int} {f : Int → Cn} (h : MapC w B m ks f) {k : Int} (h1 : -9223372036854775808 ≤ k) (h2 : k ≤ 9223372036854775807) :
    (Instr.lookup 26 (.map m) (.int .i64 k) false).run Try.prog w = .ok (.agg #[.int .i64 (f k).1, .int .i64 (f k).2]) w := by
  obtain ⟨h0, ⟨rfl, rfl⟩ | ⟨b, rfl, _, hm⟩⟩ := h
  · have hrun := Maps.look_nil (P := Try.prog) (w := w) false keyed Try.underlying26 (zero_cn w) (key_of h1 h2)
    rw [hrun, h0 k (by simp)]; rfl
  · exact get_run hm h1 h2 (h0 k)
theorem MapC.turned {p : Nat → Prop} {w w' : World} {B : Nat} {m : Option Nat} {ks : List Int} {f : Int → Cn} (h : MapC w B m ks f) (ht : Turned p w w') (hp : ∀ k, m = some k → ¬ p k) : MapC w' B m ks f := by
  obtain ⟨h0, h⟩ := h
  refine ⟨h0, ?_⟩
  rcases h with h | ⟨b, rfl, hb, hm⟩
  · exact .inl h
  · exact .inr ⟨b, rfl, hb, hm.turned ht (hp b rfl)⟩
theorem MapC.below {w w' : World} {B : Nat} {m : Option Nat} {ks : List Int} {f : Int → Cn} (h : MapC w B m ks f) (hb : Below w.heap.size w w') : MapC w' B m ks f := h.turned (p := fun _ => False) (.of_below hb) fun _ _ e => e

/-! ### a tracker in memory -/
def FootT (g : Nat) (m : Option Nat) (k : Nat) : Prop := k = g ∨ m = some k
/-- a tracker at g: its total t, what each server knows f, of at most n calls -/
structure TrkAt (w : World) (B g n : Nat) (m : Option Nat) (t : Cn) (f : Int → Cn) : Prop where
  base : B ≤ g
  row : w.heap[g]? = some (.cells #[.int .i64 t.1, .int .i64 t.2, .map m] 28 (0, 0))
  map : ∃ ks, MapC w B m ks f ∧ ks.length ≤ n
  good : GoodT n t f
theorem TrkAt.mono {w : World} {B g n n' : Nat} {m : Option Nat} {t : Cn} {f : Int → Cn} (h : TrkAt w B g n m t f) (hn : n ≤ n') : TrkAt w B g n' m t f := by
  obtain ⟨ks, h1, h2⟩ := h.map
  exact ⟨h.base, h.row, ⟨ks, h1, by omega⟩, h.good.mono hn⟩
theorem TrkAt.turned {p : Nat → Prop} {w w' : World} {B g n : Nat} {m : Option Nat} {t : Cn} {f : Int → Cn} (h : TrkAt w B g n m t f) (ht : Turned p w w') (hp : ∀ k, FootT g m k → ¬ p k) : TrkAt w' B g n m t f := by
  obtain ⟨ks, h1, h2⟩ := h.map
  exact ⟨h.base, ht.heap h.row (hp g (.inl rfl)), ⟨ks, h1.turned ht fun k hk => hp k (.inr hk), h2⟩, h.good⟩
theorem TrkAt.below {w w' : World} {B g n : Nat} {m : Option Nat} {t : Cn} {f : Int → Cn} (h : TrkAt w B g n m t f) (hb : Below w.heap.size w w') : TrkAt w' B g n m t f := h.turned (p := fun _ => False) (.of_below hb) fun _ _ e => e
theorem TrkAt.spares {w : World} {B g n : Nat} {m : Option Nat} {t : Cn} {f : Int → Cn} (h : TrkAt w B g n m t f) {k : Nat} (hk : FootT g m k) : B ≤ k ∧ k < w.heap.size := by
  rcases hk with rfl | rfl
  · exact ⟨h.base, (Array.getElem?_eq_some_iff.1 h.row).1⟩
  · obtain ⟨ks, ⟨_, ⟨e, _⟩ | ⟨b, e, hb, hm⟩⟩, _⟩ := h.map
    · cases e
    · injection e with e
      subst e
      obtain ⟨es, clock, hc⟩ := map_lt hm
      exact ⟨hb, (Array.getElem?_eq_some_iff.1 hc).1⟩
theorem TrkAt.apart {w : World} {B g n : Nat} {m : Option Nat} {t : Cn} {f : Int → Cn} (h : TrkAt w B g n m t f) {b : Nat} (hb : m = some b) : b ≠ g := by
  subst hb
  obtain ⟨ks, ⟨_, ⟨e, _⟩ | ⟨b', e, hb, hm⟩⟩, _⟩ := h.map
  · cases e
  · injection e with e
    subst e
    obtain ⟨es, clock, hc⟩ := map_lt hm
    intro e
    rw [e, h.row] at hc
    cases hc
theorem TrkAt.over {w w' : World} {B g n : Nat} {m : Option Nat} {t : Cn} {f : Int → Cn} (H : TrkAt w B g n m t f) (hB : B ≤ w.heap.size) (ht : Turned (FootT g m) w w') : Below B w w' :=
  ⟨ht.os, ht.tape, ht.output, ht.size, fun k hk => ht.block k (Nat.lt_of_lt_of_le hk hB) fun e => by have := (H.spares e).1; omega⟩
/-- the zero tracker -/
theorem TrkAt.zero {w : World} {B g : Nat} (hB : B ≤ g) (hr : w.heap[g]? = some (.cells #[.int .i64 0, .int .i64 0, .map none] 28 (0, 0))) : TrkAt w B g 0 none (0, 0) fun _ => (0, 0) :=
  ⟨hB, hr, ⟨[], ⟨fun _ _ => rfl, .inl ⟨rfl, rfl⟩⟩, Nat.le_refl _⟩, GoodT.zero⟩
theorem new_trk (w : World) : TrkAt (w.alloc (.cells #[.int .i64 0, .int .i64 0, .map none] 28)) w.heap.size w.heap.size 0 none (0, 0) fun _ => (0, 0) := TrkAt.zero (Nat.le_refl _) (heap_alloc_new _ _)
end Go.Proofs.Ytkfhocmnkamhlaa
