/-
  A state of volumes in memory (StC, StAt): its cells, its rows of chunks, each chunk's lists; what keeps it. Conditions: what each names.
-/
import Derived.Test.YtcaaakoahaoooaaVolMath
import Derived.StillTailTactics
import Derived.BigQuiet
import Derived.BigRegion
import Derived.OwnWalk
import Derived.Deep.DeepCutAuto
import Derived.Deep.WholeRow
import Derived.Deep.QuietTactic
import Derived.Deep.RegionLaw
import Derived.Laws.Cover3
import Derived.Deep.MidRow
namespace Go.Proofs.Ytcaaakoahaoooaa
open Go.ChangeShapes Go.WideShapes Go.ChangeAt Go.RowKit
set_option linter.unusedVariables false

/-- a slice: where it begins, its length, its capacity -/
structure Sl where
  A : Option Addr
  n : Nat
  c : Nat
def Sl.v (s : Sl) : Value := .slice s.A s.n s.c
def Sl.nil : Sl := ⟨none, 0, 0⟩
/-- no block of cells of type T is among those of p -/
def NoT (w : World) (T : TypeId) (p : Nat → Prop) : Prop := ∀ k cs fr, p k → w.heap[k]? ≠ some (.cells cs T fr)
theorem NoT.no (w : World) (T : TypeId) : NoT w T (fun _ => False) := fun _ _ _ e => e.elim
/-- the slice at A reads as xs, in a block of cells of type T -/
def SeenT (w : World) (T : TypeId) (A : Option Addr) (xs : List Value) : Prop :=
  Seen w A xs ∧ (xs = [] ∨ ∃ g o cs fr, A = some ⟨g, o, none⟩ ∧ w.heap[g]? = some (.cells cs T fr))
theorem SeenT.turned {p : Nat → Prop} {w w' : World} {T : TypeId} {A : Option Addr} {xs : List Value} (h : SeenT w T A xs) (ht : Turned p w w') (hp : NoT w T p) : SeenT w' T A xs := by
  obtain ⟨h1, h2⟩ := h
  rcases h2 with rfl | ⟨g, o, cs, fr, rfl, hg⟩
  · exact ⟨.inl rfl, .inl rfl⟩
  · have hn : ¬ p g := fun e => hp g cs fr e hg
    exact ⟨ht.seen h1 (fun g' o' e => by injection e with e; injection e with e; subst e; exact hn), .inr ⟨g, o, cs, fr, rfl, ht.heap hg hn⟩⟩
theorem SeenT.below {w w' : World} {T : TypeId} {A : Option Addr} {xs : List Value} (h : SeenT w T A xs) (hb : Below w.heap.size w w') : SeenT w' T A xs := h.turned (p := fun _ => False) (.of_below hb) (NoT.no w T)
theorem SeenT.nil (w : World) (T : TypeId) (A : Option Addr) : SeenT w T A [] := ⟨.inl rfl, .inl rfl⟩
theorem SeenT.take {w : World} {T : TypeId} {A : Option Addr} {xs : List Value} (h : SeenT w T A xs) (k : Nat) : SeenT w T A (xs.take k) := by
  refine ⟨h.1.take k, ?_⟩
  rcases h.2 with rfl | h2
  · exact .inl (by simp)
  · exact .inr h2
/-- rows of one's own -/
theorem own_formM {w : World} {base : Nat} {e : TypeId} {z : Nat} {v : Value} {n : Nat} {xs : List Value} (h : w.ownsRow base e z v n xs) : ∃ A c, v = .slice A n c := by
  rcases h.2 with ⟨rfl, rfl⟩ | ⟨g, cap, cur, rfl, _⟩
  · exact ⟨_, _, rfl⟩
  · exact ⟨_, _, rfl⟩
theorem own_turnedM {p : Nat → Prop} {w w' : World} {base z : Nat} {e : TypeId} {v : Value} {n : Nat} {xs : List Value} (h : Turned p w w') (ho : w.ownsRow base e z v n xs) (hn : ∀ k, v.ownBlock = some k → ¬ p k) : w'.ownsRow base e z v n xs := by
  refine ⟨ho.1, ?_⟩
  rcases ho.2 with h2 | ⟨g, cap, cur, rfl, hg, hh, r⟩
  · exact .inl h2
  · exact .inr ⟨g, cap, cur, rfl, hg, h.heap hh (hn g rfl), r⟩
theorem own_belowM {w w' : World} {b : Nat} {e : TypeId} {z : Nat} {v : Value} {n : Nat} {xs : List Value} (h : w.ownsRow b e z v n xs) (hb : Below w.heap.size w w') : w'.ownsRow b e z v n xs := own_turnedM (Turned.of_below (p := fun _ => False) hb) h fun _ _ e => e
theorem own_baseM {w : World} {b b' : Nat} {e : TypeId} {z : Nat} {v : Value} {n : Nat} {xs : List Value} (h : w.ownsRow b e z v n xs) (hb : b' ≤ b) : w.ownsRow b' e z v n xs := by
  refine ⟨h.1, ?_⟩
  rcases h.2 with h2 | ⟨g, cap, cur, rfl, hg, r⟩
  · exact .inl h2
  · exact .inr ⟨g, cap, cur, rfl, by omega, r⟩
theorem row_blockM {w : World} {base z n : Nat} {e : TypeId} {v : Value} {xs : List Value} (h : w.ownsRow base e z v n xs) {k : Nat} (hk : v.ownBlock = some k) : ∃ cs, w.heap[k]? = some (.cells cs e (0, 0)) := by
  rcases h.2 with ⟨rfl, _⟩ | ⟨g, cap, cur, rfl, _, hh, _⟩
  · cases hk
  · injection hk with hk
    subst hk
    exact ⟨cur, hh⟩
theorem own_capL {w : World} {base z n c : Nat} {A : Option Addr} {e : TypeId} {xs : List Value} (h : w.ownsRow base e z (.slice A n c) n xs) : n ≤ c ∧ c ≤ maxLen := by
  rcases h.2 with ⟨hv, _⟩ | ⟨g', cap, cur, hv, _, _, h1, h2, _⟩
  · injection hv with h1 h2 h3
    subst h2; subst h3
    exact ⟨Nat.le_refl _, Nat.zero_le _⟩
  · injection hv with _ _ h3
    subst h3
    exact ⟨h1, h2⟩
theorem own_seenM {w : World} {base z n c : Nat} {A : Option Addr} {e : TypeId} {xs : List Value} (h : w.ownsRow base e z (.slice A n c) n xs) : Seen w A xs := by
  rcases h.2 with ⟨hv, hn⟩ | ⟨g, cap, cur, hv, _, hh, h1, h2, h3, h4⟩
  · refine .inl ?_
    have := h.1
    exact List.length_eq_zero_iff.1 (by rw [this, hn]; simp)
  · injection hv with hA _ _
    refine .inr ⟨g, 0, hA, fun j v hj => ?_⟩
    have hjl := (List.getElem?_eq_some_iff.1 hj).1
    rw [Nat.zero_add, row_cell hh]
    rw [← h4, List.getElem?_take] at hj
    split at hj
    · simpa using hj
    · cases hj
theorem SeenT.own {w : World} {base z n c : Nat} {A : Option Addr} {T : TypeId} {xs : List Value} (h : w.ownsRow base T z (.slice A n c) n xs) : SeenT w T A xs := by
  refine ⟨own_seenM h, ?_⟩
  rcases h.2 with ⟨hv, hn⟩ | ⟨g, cap, cur, hv, _, hh, _⟩
  · refine .inl ?_
    have := h.1
    exact List.length_eq_zero_iff.1 (by rw [this, hn]; simp)
  · injection hv with hA _ _
    exact .inr ⟨g, 0, cur, _, hA, hh⟩

/-! ### lists of ints -/
/-- a slice that reads as these ints, in a block of ints -/
structure IntsT (w : World) (s : Sl) (us : List Int) : Prop where
  len : us.length = s.n
  cap : s.n ≤ s.c
  max : s.c ≤ maxLen
  see : SeenT w 3 s.A (numsV us)
theorem IntsT.turned {p : Nat → Prop} {w w' : World} {s : Sl} {us : List Int} (h : IntsT w s us) (ht : Turned p w w') (hp : NoT w 3 p) : IntsT w' s us := ⟨h.len, h.cap, h.max, h.see.turned ht hp⟩
theorem IntsT.below {w w' : World} {s : Sl} {us : List Int} (h : IntsT w s us) (hb : Below w.heap.size w w') : IntsT w' s us := ⟨h.len, h.cap, h.max, h.see.below hb⟩
theorem IntsT.nil (w : World) : IntsT w Sl.nil [] := ⟨rfl, Nat.le_refl _, Nat.zero_le _, SeenT.nil _ _ _⟩
theorem IntsT.own {w : World} {base n c : Nat} {A : Option Addr} {us : List Int} (h : w.ownsRow base 3 1 (.slice A n c) n (numsV us)) : IntsT w ⟨A, n, c⟩ us := by
  refine ⟨?_, (own_capL h).1, (own_capL h).2, SeenT.own h⟩
  have := h.1
  rw [numsV_length] at this
  simpa using this

/-! ### chunks -/
/-- a chunk, and where its lists lie -/
structure Ck where
  id : Int
  vo : Int
  ep : Int
  m : Sl
  j : Sl
  ms : List Int
  js : List Int
def Ck.dat (k : Ck) : Chk := ⟨k.id, k.vo, k.ep, k.ms, k.js⟩
def ckC (k : Ck) : List Value := [.int .i64 k.id, .int .i64 k.vo, .int .i64 k.ep, .slice k.m.A k.m.n k.m.c, .slice k.j.A k.j.n k.j.c]
def cksV (X : List Ck) : List Value := X.flatMap ckC
theorem cksV_append (X Y : List Ck) : cksV (X ++ Y) = cksV X ++ cksV Y := by simp [cksV]
theorem cksV_one1 (k : Ck) : cksV [k] = ckC k := by simp [cksV]
theorem cksV_length (X : List Ck) : (cksV X).length = X.length * 5 := by
  induction X with
  | nil => rfl
  | cons p r ih =>
    have : (cksV (p :: r)).length = 5 + (cksV r).length := by simp [cksV, ckC]; omega
    rw [this, ih, List.length_cons]; omega
theorem cksV_get : ∀ {X : List Ck} {i : Nat} {p : Ck}, X[i]? = some p → (cksV X)[i * 5]? = some (.int .i64 p.id) ∧ (cksV X)[i * 5 + 1]? = some (.int .i64 p.vo) ∧ (cksV X)[i * 5 + 2]? = some (.int .i64 p.ep) ∧ (cksV X)[i * 5 + 3]? = some (.slice p.m.A p.m.n p.m.c) ∧ (cksV X)[i * 5 + 4]? = some (.slice p.j.A p.j.n p.j.c)
  | [], _, _, h => by simp at h
  | q :: r, 0, p, h => by
    simp at h
    subst h
    exact ⟨rfl, rfl, rfl, rfl, rfl⟩
  | q :: r, i + 1, p, h => by
    have := cksV_get (X := r) (i := i) (p := p) (by simpa using h)
    have e1 : (i + 1) * 5 = (i * 5) + 1 + 1 + 1 + 1 + 1 := by omega
    rw [e1]
    exact this
theorem cksV_oneCell (X : List Ck) : ∀ u ∈ cksV X, u.oneCell' = true := by
  intro u hu
  simp only [cksV, List.mem_flatMap, ckC, List.mem_cons, List.not_mem_nil, or_false] at hu
  obtain ⟨p, _, rfl | rfl | rfl | rfl | rfl⟩ := hu <;> rfl
theorem cksV_take (X : List Ck) (i : Nat) : (cksV X).take (i * 5) = cksV (X.take i) := by
  by_cases h : i ≤ X.length
  · have e : cksV X = cksV (X.take i) ++ cksV (X.drop i) := by rw [← cksV_append, List.take_append_drop]
    rw [e, List.take_append_of_le_length (by rw [cksV_length, List.length_take]; omega), List.take_of_length_le (by rw [cksV_length, List.length_take]; omega)]
  · rw [List.take_of_length_le (by rw [cksV_length]; omega), List.take_of_length_le (by omega)]
/-- a chunk whose lists can be read -/
structure CkOk (w : World) (k : Ck) : Prop where
  m : IntsT w k.m k.ms
  j : IntsT w k.j k.js
theorem CkOk.turned {p : Nat → Prop} {w w' : World} {k : Ck} (h : CkOk w k) (ht : Turned p w w') (hp : NoT w 3 p) : CkOk w' k := ⟨h.m.turned ht hp, h.j.turned ht hp⟩
theorem CkOk.below {w w' : World} {k : Ck} (h : CkOk w k) (hb : Below w.heap.size w w') : CkOk w' k := ⟨h.m.below hb, h.j.below hb⟩
/-- a slice that reads as these chunks -/
structure KsT (w : World) (s : Sl) (X : List Ck) : Prop where
  len : X.length = s.n
  cap : s.n ≤ s.c
  max : s.c ≤ maxLen
  see : SeenT w 48 s.A (cksV X)
  ok : ∀ k ∈ X, CkOk w k
theorem KsT.turned {p : Nat → Prop} {w w' : World} {s : Sl} {X : List Ck} (h : KsT w s X) (ht : Turned p w w') (hi : NoT w 3 p) (hc : NoT w 48 p) : KsT w' s X := ⟨h.len, h.cap, h.max, h.see.turned ht hc, fun k hk => (h.ok k hk).turned ht hi⟩
theorem KsT.below {w w' : World} {s : Sl} {X : List Ck} (h : KsT w s X) (hb : Below w.heap.size w w') : KsT w' s X := ⟨h.len, h.cap, h.max, h.see.below hb, fun k hk => (h.ok k hk).below hb⟩
theorem KsT.nil (w : World) : KsT w Sl.nil [] := ⟨rfl, Nat.le_refl _, Nat.zero_le _, SeenT.nil _ _ _, fun k hk => by cases hk⟩
/-- a chunk's cells at ⟨g, q⟩ -/
structure CkAt (w : World) (g q : Nat) (k : Ck) : Prop where
  c0 : w.cell? ⟨g, q, none⟩ = some (.int .i64 k.id)
  c1 : w.cell? ⟨g, q + 1, none⟩ = some (.int .i64 k.vo)
  c2 : w.cell? ⟨g, q + 2, none⟩ = some (.int .i64 k.ep)
  c3 : w.cell? ⟨g, q + 3, none⟩ = some (.slice k.m.A k.m.n k.m.c)
  c4 : w.cell? ⟨g, q + 4, none⟩ = some (.slice k.j.A k.j.n k.j.c)
theorem CkAt.below {w w' : World} {g q : Nat} {k : Ck} (h : CkAt w g q k) (hb : Below w.heap.size w w') : CkAt w' g q k := by
  obtain ⟨h0, h1, h2, h3, h4⟩ := h
  exact ⟨by rw [hb.cell (block_lt_of_cell h0)]; exact h0, by rw [hb.cell (block_lt_of_cell h1)]; exact h1, by rw [hb.cell (block_lt_of_cell h2)]; exact h2, by rw [hb.cell (block_lt_of_cell h3)]; exact h3, by rw [hb.cell (block_lt_of_cell h4)]; exact h4⟩
/-- the k-th -/
theorem KsT.get {w : World} {s : Sl} {X : List Ck} (h : KsT w s X) {i : Nat} {k : Ck} (hk : X[i]? = some k) : ∃ g o, s.A = some ⟨g, o, none⟩ ∧ CkAt w g (o + i * 5) k := by
  obtain ⟨e0, e1, e2, e3, e4⟩ := cksV_get hk
  rcases h.see.1 with h | ⟨g, o, hA, hc⟩
  · rw [h] at e0; cases e0
  · exact ⟨g, o, hA, by rw [hc _ _ e0], by rw [Nat.add_assoc, hc _ _ e1], by rw [Nat.add_assoc, hc _ _ e2], by rw [Nat.add_assoc, hc _ _ e3], by rw [Nat.add_assoc, hc _ _ e4]⟩
def ckR (k : Ck) : Array Value := #[.int .i64 k.id, .int .i64 k.vo, .int .i64 k.ep, .slice k.m.A k.m.n k.m.c, .slice k.j.A k.j.n k.j.c]
theorem CkAt.of_row {w : World} {g : Nat} {k : Ck} {t : TypeId} (h : w.heap[g]? = some (.cells #[.int .i64 k.id, .int .i64 k.vo, .int .i64 k.ep, .slice k.m.A k.m.n k.m.c, .slice k.j.A k.j.n k.j.c] t (0, 0))) : CkAt w g 0 k :=
  ⟨row_cell h 0, row_cell h 1, row_cell h 2, row_cell h 3, row_cell h 4⟩
theorem ck_size : (Try.prog.info? 48).map (·.size) = some 5 := by kernel_rfl
theorem ck_info : (Try.prog.info? 48).map (fun i => (i.zero, i.size, i.bytes)) = some (some (.agg #[.int .i64 0, .int .i64 0, .int .i64 0, .slice none 0 0, .slice none 0 0]), 5, 72) := by kernel_rfl
/-- a whole chunk loaded, under a name -/
def ldCk (p : Value) : Sem Value := Instr.loadAt 48 p
theorem ldCk_eq (p : Value) : Instr.loadAt 48 p = ldCk p := rfl
theorem ldCk_run {w : World} {g o : Nat} {k : Ck} (h : CkAt w g o k) :
    (ldCk (.pointer (some ⟨g, o, none⟩))).run Try.prog w = .ok (.agg #[.int .i64 k.id, .int .i64 k.vo, .int .i64 k.ep, .slice k.m.A k.m.n k.m.c, .slice k.j.A k.j.n k.j.c]) w := by
  have hr : w.rangeAt g o [.int .i64 k.id, .int .i64 k.vo, .int .i64 k.ep, .slice k.m.A k.m.n k.m.c, .slice k.j.A k.j.n k.j.c] := fun j v hv => by
    match j, hv with
    | 0, hv => simp at hv; subst hv; exact h.c0
    | 1, hv => simp at hv; subst hv; exact h.c1
    | 2, hv => simp at hv; subst hv; exact h.c2
    | 3, hv => simp at hv; subst hv; exact h.c3
    | 4, hv => simp at hv; subst hv; exact h.c4
  exact run_loadAt_mid w g o 48 [.int .i64 k.id, .int .i64 k.vo, .int .i64 k.ep, .slice k.m.A k.m.n k.m.c, .slice k.j.A k.j.n k.j.c] _ hr Try.underlying48 rfl ck_size
/-- a box that holds a chunk -/
theorem ck_box (w : World) (k : Ck) : ∃ W, w.alloc (.cells #[.int .i64 k.id, .int .i64 k.vo, .int .i64 k.ep, .slice k.m.A k.m.n k.m.c, .slice k.j.A k.j.n k.j.c] 48) = W ∧ Below w.heap.size w W ∧ W.heap[w.heap.size]? = some (.cells #[.int .i64 k.id, .int .i64 k.vo, .int .i64 k.ep, .slice k.m.A k.m.n k.m.c, .slice k.j.A k.j.n k.j.c] 48 (0, 0)) :=
  ⟨_, rfl, (Below.refl _ _).alloc (Nat.le_refl _) _, heap_alloc_new _ _⟩

/-! ### a state -/
/-- a state at g: its cells cs, where its volumes' chunks lie, and which they are -/
structure StC (w : World) (g : Nat) (cs : Array Value) (s : St) (K : Nat → Sl) (X : Nat → List Ck) : Prop where
  row : w.heap[g]? = some (.cells cs 69 (0, 0))
  size : cs.size = 465
  pk : ∀ i, i < 16 → cs[i]? = some (.int .i64 (s.pk i))
  c0 : ∀ i, i < 64 → cs[16 + i * 7]? = some (.int .i64 (s.vs i).bl)
  c1 : ∀ i, i < 64 → cs[16 + i * 7 + 1]? = some (.int .i64 (s.vs i).p.re)
  c2 : ∀ i, i < 64 → cs[16 + i * 7 + 2]? = some (.int .i64 (s.vs i).p.we)
  c3 : ∀ i, i < 64 → cs[16 + i * 7 + 3]? = some (.int .i64 (s.vs i).p.li)
  c4 : ∀ i, i < 64 → cs[16 + i * 7 + 4]? = some (.int .i64 (s.vs i).p.bu)
  c5 : ∀ i, i < 64 → cs[16 + i * 7 + 5]? = some (.int .i64 (s.vs i).ver)
  c6 : ∀ i, i < 64 → cs[16 + i * 7 + 6]? = some (.slice (K i).A (K i).n (K i).c)
  md : cs[464]? = some (.int .i64 s.md)
  ks : ∀ i, i < 64 → KsT w (K i) (X i)
  dat : ∀ i, i < 64 → (X i).map Ck.dat = (s.vs i).ks
def StAt (w : World) (g : Nat) (s : St) : Prop := ∃ cs K X, StC w g cs s K X
/-- the types of a state's blocks that it shares, and never writes -/
def NoCk (w : World) (p : Nat → Prop) : Prop := NoT w 3 p ∧ NoT w 48 p
theorem NoCk.no (w : World) : NoCk w (fun _ => False) := ⟨NoT.no _ _, NoT.no _ _⟩
theorem StC.turned {p : Nat → Prop} {w w' : World} {g : Nat} {cs : Array Value} {s : St} {K : Nat → Sl} {X : Nat → List Ck} (h : StC w g cs s K X) (ht : Turned p w w') (hg : ¬ p g) (hn : NoCk w p) : StC w' g cs s K X :=
  ⟨ht.heap h.row hg, h.size, h.pk, h.c0, h.c1, h.c2, h.c3, h.c4, h.c5, h.c6, h.md, fun i hi => (h.ks i hi).turned ht hn.1 hn.2, h.dat⟩
theorem StC.below {w w' : World} {g : Nat} {cs : Array Value} {s : St} {K : Nat → Sl} {X : Nat → List Ck} (h : StC w g cs s K X) (hb : Below w.heap.size w w') : StC w' g cs s K X := h.turned (p := fun _ => False) (.of_below hb) id (NoCk.no w)
theorem StAt.turned {p : Nat → Prop} {w w' : World} {g : Nat} {s : St} (h : StAt w g s) (ht : Turned p w w') (hg : ¬ p g) (hn : NoCk w p) : StAt w' g s := by
  obtain ⟨cs, K, X, h⟩ := h
  exact ⟨cs, K, X, h.turned ht hg hn⟩
theorem StAt.below {w w' : World} {g : Nat} {s : St} (h : StAt w g s) (hb : Below w.heap.size w w') : StAt w' g s := h.turned (p := fun _ => False) (.of_below hb) id (NoCk.no w)
theorem StC.lt {w : World} {g : Nat} {cs : Array Value} {s : St} {K : Nat → Sl} {X : Nat → List Ck} (h : StC w g cs s K X) : g < w.heap.size := (Array.getElem?_eq_some_iff.1 h.row).1
theorem StAt.lt {w : World} {g : Nat} {s : St} (h : StAt w g s) : g < w.heap.size := by
  obtain ⟨cs, K, X, h⟩ := h
  exact h.lt
/-- its own block holds no ints and no chunks -/
theorem StC.noCk {w : World} {g : Nat} {cs : Array Value} {s : St} {K : Nat → Sl} {X : Nat → List Ck} (h : StC w g cs s K X) : NoCk w (fun k => k = g) := by
  refine ⟨fun k cs' fr hk e => ?_, fun k cs' fr hk e => ?_⟩
  · subst hk
    rw [h.row] at e
    injection e with e
    injection e with _ e
    exact absurd e (by decide)
  · subst hk
    rw [h.row] at e
    injection e with e
    injection e with _ e
    exact absurd e (by decide)
/-- other cells at g, that say s' -/
theorem StC.len {w : World} {g : Nat} {cs : Array Value} {s : St} {K : Nat → Sl} {X : Nat → List Ck} (h : StC w g cs s K X) {i : Nat} (hi : i < 64) : (s.vs i).ks.length = (K i).n := by
  rw [← h.dat i hi, List.length_map, (h.ks i hi).len]
theorem StC.cell {w : World} {g : Nat} {cs : Array Value} {s : St} {K : Nat → Sl} {X : Nat → List Ck} (h : StC w g cs s K X) (j : Nat) : w.cell? ⟨g, j, none⟩ = cs[j]? := row_cell h.row j
end Go.Proofs.Ytcaaakoahaoooaa
