/-
  A log in memory: its entries as cells (entsV), an entry whose bytes can be read (EntOk), LogAt and LogD, what keeps them, and what a call that writes a log leaves (GrewL). Conditions: what each names.
-/
import Derived.Test.YtigjkmlhpefafaaRows
import Derived.Test.YtigjkmlhpefafaaKept
import Derived.Test.YtigjkmlhpefafaaSame
import Derived.StillTailTactics
import Derived.BigQuiet
import Derived.BigRegion
import Derived.OwnWalk
import Derived.Deep.DeepCutAuto
import Derived.Deep.WholeRow
import Derived.Deep.QuietTactic
import Derived.Deep.RegionLaw
import Derived.Laws.Cover3
import Derived.Deep.MidRow
namespace Go.Proofs.Ytigjkmlhpefafaa
open Go.ChangeShapes Go.WideShapes Go.ChangeAt Go.RowKit
set_option linter.unusedVariables false

/-- an entry: its term, its kind, where its bytes lie, and which they are -/
structure Ent where
  t : Int
  k : Int
  A : Option Addr
  n : Nat
  c : Nat
  bs : List UInt8
/-- what an entry says -/
abbrev Dat := Int × Int × List UInt8
def Ent.dat (e : Ent) : Dat := (e.t, e.k, e.bs)
def entC (e : Ent) : List Value := [.int .i64 e.t, .int .i64 e.k, .slice e.A e.n e.c]
def entR (e : Ent) : Array Value := #[.int .i64 e.t, .int .i64 e.k, .slice e.A e.n e.c]
def entsV (X : List Ent) : List Value := X.flatMap entC
theorem entsV_append (X Y : List Ent) : entsV (X ++ Y) = entsV X ++ entsV Y := by simp [entsV]
theorem entsV_one1 (e : Ent) : entsV [e] = entC e := by simp [entsV]
theorem entsV_length (X : List Ent) : (entsV X).length = X.length * 3 := by
  induction X with
  | nil => rfl
  | cons p r ih =>
    have : (entsV (p :: r)).length = 3 + (entsV r).length := by simp [entsV, entC]; omega
    rw [this, ih, List.length_cons]; omega
theorem entsV_get : ∀ {X : List Ent} {i : Nat} {p : Ent}, X[i]? = some p → (entsV X)[i * 3]? = some (.int .i64 p.t) ∧ (entsV X)[i * 3 + 1]? = some (.int .i64 p.k) ∧ (entsV X)[i * 3 + 2]? = some (.slice p.A p.n p.c)
  | [], _, _, h => by simp at h
  | q :: r, 0, p, h => by
    simp at h
    subst h
    exact ⟨rfl, rfl, rfl⟩
  | q :: r, i + 1, p, h => by
    have := entsV_get (X := r) (i := i) (p := p) (by simpa using h)
    have e1 : (i + 1) * 3 = (i * 3) + 1 + 1 + 1 := by omega
    rw [e1]
    exact this
theorem entsV_oneCell (X : List Ent) : ∀ u ∈ entsV X, u.oneCell' = true := by
  intro u hu
  simp only [entsV, List.mem_flatMap, entC, List.mem_cons, List.not_mem_nil, or_false] at hu
  obtain ⟨p, _, rfl | rfl | rfl⟩ := hu <;> rfl
theorem entsV_take (X : List Ent) (i : Nat) : (entsV X).take (i * 3) = entsV (X.take i) := by
  by_cases h : i ≤ X.length
  · have e : entsV X = entsV (X.take i) ++ entsV (X.drop i) := by rw [← entsV_append, List.take_append_drop]
    rw [e, List.take_append_of_le_length (by rw [entsV_length, List.length_take]; omega), List.take_of_length_le (by rw [entsV_length, List.length_take]; omega)]
  · rw [List.take_of_length_le (by rw [entsV_length]; omega), List.take_of_length_le (by omega)]
theorem entsV_drop (X : List Ent) (i : Nat) : (entsV X).drop (i * 3) = entsV (X.drop i) := by
  by_cases h : i ≤ X.length
  · have e : entsV X = entsV (X.take i) ++ entsV (X.drop i) := by rw [← entsV_append, List.take_append_drop]
    have hl : (entsV (X.take i)).length = i * 3 := by rw [entsV_length, List.length_take]; omega
    rw [e, ← hl, List.drop_left]
  · rw [List.drop_eq_nil_of_le (by rw [entsV_length]; omega), List.drop_eq_nil_of_le (by omega)]; rfl
theorem ent_info : (Try.prog.info? 28).map (fun i => (i.zero, i.size, i.bytes)) = some (some (.agg #[.int .i64 0, .int .i64 0, .slice none 0 0]), 3, 40) := by kernel_rfl
theorem ent_size : (Try.prog.info? 28).map (·.size) = some 3 := by kernel_rfl
theorem log_size : (Try.prog.info? 43).map (·.size) = some 3 := by kernel_rfl

/-! ### a row of elements of several cells -/
theorem own_formM {w : World} {base : Nat} {e : TypeId} {z : Nat} {v : Value} {n : Nat} {xs : List Value} (h : w.ownsRow base e z v n xs) : ∃ A c, v = .slice A n c := by
  rcases h.2 with ⟨rfl, rfl⟩ | ⟨g, cap, cur, rfl, _⟩
  · exact ⟨_, _, rfl⟩
  · exact ⟨_, _, rfl⟩
theorem own_turnedM {p : Nat → Prop} {w w' : World} {base z : Nat} {e : TypeId} {v : Value} {n : Nat} {xs : List Value} (h : Turned p w w') (ho : w.ownsRow base e z v n xs) (hn : ∀ k, v.ownBlock = some k → ¬ p k) : w'.ownsRow base e z v n xs := by
  refine ⟨ho.1, ?_⟩
  rcases ho.2 with h2 | ⟨g, cap, cur, rfl, hg, hh, r⟩
  · exact .inl h2
  · exact .inr ⟨g, cap, cur, rfl, hg, h.heap hh (hn g rfl), r⟩
theorem own_belowM {w w' : World} {b : Nat} {e : TypeId} {z : Nat} {v : Value} {n : Nat} {xs : List Value} (h : w.ownsRow b e z v n xs) (hb : Below w.heap.size w w') : w'.ownsRow b e z v n xs := own_turnedM (Turned.of_below (p := fun _ => False) hb) h fun _ _ e => e
theorem own_baseM {w : World} {b b' : Nat} {e : TypeId} {z : Nat} {v : Value} {n : Nat} {xs : List Value} (h : w.ownsRow b e z v n xs) (hb : b' ≤ b) : w.ownsRow b' e z v n xs := by
  refine ⟨h.1, ?_⟩
  rcases h.2 with h2 | ⟨g, cap, cur, rfl, hg, r⟩
  · exact .inl h2
  · exact .inr ⟨g, cap, cur, rfl, by omega, r⟩
theorem row_blockM {w : World} {base z n : Nat} {e : TypeId} {v : Value} {xs : List Value} (h : w.ownsRow base e z v n xs) {k : Nat} (hk : v.ownBlock = some k) : ∃ cs, w.heap[k]? = some (.cells cs e (0, 0)) := by
  rcases h.2 with ⟨rfl, _⟩ | ⟨g, cap, cur, rfl, _, hh, _⟩
  · cases hk
  · injection hk with hk
    subst hk
    exact ⟨cur, hh⟩
theorem own_capM {w : World} {base z n c : Nat} {A : Option Addr} {e : TypeId} {xs : List Value} (h : w.ownsRow base e z (.slice A n c) n xs) : n ≤ c ∨ (A = none ∧ n = 0 ∧ c = 0) := by
  rcases h.2 with ⟨hv, _⟩ | ⟨g', cap, cur, hv, _, _, h1, h2, _⟩
  · injection hv with h1 h2 h3
    exact .inr ⟨h1, h2, h3⟩
  · injection hv with _ _ h3
    subst h3
    exact .inl h1
theorem own_capL {w : World} {base z n c : Nat} {A : Option Addr} {e : TypeId} {xs : List Value} (h : w.ownsRow base e z (.slice A n c) n xs) : n ≤ c ∧ c ≤ maxLen := by
  rcases h.2 with ⟨hv, _⟩ | ⟨g', cap, cur, hv, _, _, h1, h2, _⟩
  · injection hv with h1 h2 h3
    subst h2; subst h3
    exact ⟨Nat.le_refl _, Nat.zero_le _⟩
  · injection hv with _ _ h3
    subst h3
    exact ⟨h1, h2⟩
/-- what a row of entries reads as -/
theorem own_seen {w : World} {base n c : Nat} {A : Option Addr} {e : TypeId} {X : List Ent} (h : w.ownsRow base e 3 (.slice A n c) n (entsV X)) : Seen w A (entsV X) := by
  rcases h.2 with ⟨hv, hn⟩ | ⟨g, cap, cur, hv, _, hh, h1, h2, h3, h4⟩
  · refine .inl ?_
    have := h.1
    exact List.length_eq_zero_iff.1 (by rw [this, hn])
  · injection hv with hA _ _
    refine .inr ⟨g, 0, hA, fun j v hj => ?_⟩
    have hjl := (List.getElem?_eq_some_iff.1 hj).1
    rw [Nat.zero_add, row_cell hh]
    rw [← h4, List.getElem?_take] at hj
    split at hj
    · simpa using hj
    · cases hj

/-! ### bytes that lie in a block of bytes -/
/-- bytes that stand at A, in a block of bytes -/
def SeenU (w : World) (A : Option Addr) (bs : List UInt8) : Prop := Seen w A (bytesV bs) ∧ (bs = [] ∨ ∃ g o cs fr, A = some ⟨g, o, none⟩ ∧ w.heap[g]? = some (.cells cs 5 fr))
/-- no block of bytes is among those of p -/
def NoBytes (w : World) (p : Nat → Prop) : Prop := ∀ k cs fr, p k → w.heap[k]? ≠ some (.cells cs 5 fr)
theorem SeenU.turned {p : Nat → Prop} {w w' : World} {A : Option Addr} {bs : List UInt8} (h : SeenU w A bs) (ht : Turned p w w') (hp : NoBytes w p) : SeenU w' A bs := by
  obtain ⟨h1, h2⟩ := h
  rcases h2 with rfl | ⟨g, o, cs, fr, rfl, hg⟩
  · exact ⟨.inl rfl, .inl rfl⟩
  · have hn : ¬ p g := fun e => hp g cs fr e hg
    exact ⟨ht.seen h1 (fun g' o' e => by injection e with e; injection e with e; subst e; exact hn), .inr ⟨g, o, cs, fr, rfl, ht.heap hg hn⟩⟩
theorem NoBytes.no (w : World) : NoBytes w (fun _ => False) := fun _ _ _ e => e.elim
theorem SeenU.below {w w' : World} {A : Option Addr} {bs : List UInt8} (h : SeenU w A bs) (hb : Below w.heap.size w w') : SeenU w' A bs := h.turned (p := fun _ => False) (.of_below hb) (NoBytes.no w)
theorem SeenU.own {w : World} {base n c : Nat} {A : Option Addr} {bs : List UInt8} (h : w.ownsRow base 5 1 (.slice A n c) n (bytesV bs)) : SeenU w A bs := by
  refine ⟨Seen.of_own h, ?_⟩
  rcases h.2 with ⟨hv, hn⟩ | ⟨g, cap, cur, hv, _, hh, _⟩
  · refine .inl ?_
    have := h.1
    rw [hn, bytes_length] at this
    exact List.length_eq_zero_iff.1 (by omega)
  · injection hv with hA _ _
    exact .inr ⟨g, 0, cur, _, hA, hh⟩
theorem SeenU.nil (w : World) (A : Option Addr) : SeenU w A [] := ⟨.inl rfl, .inl rfl⟩
/-- an entry whose bytes can be read -/
structure EntOk (w : World) (e : Ent) : Prop where
  len : e.bs.length = e.n
  small : e.n ≤ 10000
  see : SeenU w e.A e.bs
theorem EntOk.turned {p : Nat → Prop} {w w' : World} {e : Ent} (h : EntOk w e) (ht : Turned p w w') (hp : NoBytes w p) : EntOk w' e := ⟨h.len, h.small, h.see.turned ht hp⟩
theorem EntOk.below {w w' : World} {e : Ent} (h : EntOk w e) (hb : Below w.heap.size w w') : EntOk w' e := ⟨h.len, h.small, h.see.below hb⟩

/-! ### entries that a slice reads as -/
/-- the slice that begins at A reads as X -/
structure EntsAt (w : World) (A : Option Addr) (X : List Ent) : Prop where
  see : Seen w A (entsV X)
  ok : ∀ e ∈ X, EntOk w e
theorem EntsAt.below {w w' : World} {A : Option Addr} {X : List Ent} (h : EntsAt w A X) (hb : Below w.heap.size w w') : EntsAt w' A X := ⟨h.see.below hb, fun e he => (h.ok e he).below hb⟩
theorem EntsAt.turned {p : Nat → Prop} {w w' : World} {A : Option Addr} {X : List Ent} (h : EntsAt w A X) (ht : Turned p w w') (hp : NoBytes w p) (hn : ∀ g o, A = some ⟨g, o, none⟩ → ¬ p g) : EntsAt w' A X := ⟨ht.seen h.see hn, fun e he => (h.ok e he).turned ht hp⟩
theorem EntsAt.nil (w : World) (A : Option Addr) : EntsAt w A [] := ⟨.inl rfl, fun e he => by cases he⟩
/-- the k-th -/
theorem Seen.ent {w : World} {A : Option Addr} {X : List Ent} (h : Seen w A (entsV X)) {k : Nat} {p : Ent} (hk : X[k]? = some p) :
    ∃ g o, A = some ⟨g, o, none⟩ ∧ w.cell? ⟨g, o + k * 3, none⟩ = some (.int .i64 p.t) ∧ w.cell? ⟨g, o + k * 3 + 1, none⟩ = some (.int .i64 p.k) ∧ w.cell? ⟨g, o + k * 3 + 2, none⟩ = some (.slice p.A p.n p.c) := by
  obtain ⟨e0, e1, e2⟩ := entsV_get hk
  rcases h with h | ⟨g, o, rfl, hc⟩
  · rw [h] at e0; cases e0
  · exact ⟨g, o, rfl, by rw [hc _ _ e0], by rw [Nat.add_assoc, hc _ _ e1], by rw [Nat.add_assoc, hc _ _ e2]⟩

/-! ### a log -/
/-- the blocks of a log -/
def FootL (g : Nat) (q : Option Nat) (k : Nat) : Prop := k = g ∨ q = some k
/-- a log at g, its entries X in a row q of its own -/
structure LogAt (w : World) (B g : Nat) (q : Option Nat) (base term : Int) (X : List Ent) : Prop where
  hB : B ≤ g
  row : ∃ A c, w.heap[g]? = some (.cells #[.int .i64 base, .int .i64 term, .slice A X.length c] 43 (0, 0)) ∧ w.ownsRow B 28 3 (.slice A X.length c) X.length (entsV X) ∧ (Value.slice A X.length c).ownBlock = q
  ok : ∀ e ∈ X, EntOk w e
/-- a log at g that says x -/
def LogD (w : World) (B g : Nat) (q : Option Nat) (base term : Int) (x : List Dat) : Prop := ∃ X : List Ent, X.map Ent.dat = x ∧ LogAt w B g q base term X
theorem LogAt.turned {p : Nat → Prop} {w w' : World} {B g : Nat} {q : Option Nat} {base term : Int} {X : List Ent} (h : LogAt w B g q base term X) (ht : Turned p w w') (hn : ∀ k, FootL g q k → ¬ p k) (hp : NoBytes w p) : LogAt w' B g q base term X := by
  obtain ⟨hB, ⟨A, c, h1, h2, h3⟩, h4⟩ := h
  exact ⟨hB, ⟨A, c, ht.heap h1 (hn g (.inl rfl)), own_turnedM ht h2 (fun k hk => hn k (.inr (by rw [← h3]; exact hk))), h3⟩, fun e he => (h4 e he).turned ht hp⟩
theorem LogAt.below {w w' : World} {B g : Nat} {q : Option Nat} {base term : Int} {X : List Ent} (h : LogAt w B g q base term X) (hb : Below w.heap.size w w') : LogAt w' B g q base term X := h.turned (p := fun _ => False) (.of_below hb) (fun _ _ e => e) (NoBytes.no w)
theorem LogD.turned {p : Nat → Prop} {w w' : World} {B g : Nat} {q : Option Nat} {base term : Int} {x : List Dat} (h : LogD w B g q base term x) (ht : Turned p w w') (hn : ∀ k, FootL g q k → ¬ p k) (hp : NoBytes w p) : LogD w' B g q base term x := by
  obtain ⟨X, e, h⟩ := h
  exact ⟨X, e, h.turned ht hn hp⟩
theorem LogD.below {w w' : World} {B g : Nat} {q : Option Nat} {base term : Int} {x : List Dat} (h : LogD w B g q base term x) (hb : Below w.heap.size w w') : LogD w' B g q base term x := h.turned (p := fun _ => False) (.of_below hb) (fun _ _ e => e) (NoBytes.no w)
/-- a log's blocks -/
theorem LogAt.block {w : World} {B g : Nat} {q : Option Nat} {base term : Int} {X : List Ent} (h : LogAt w B g q base term X) {k : Nat} (hk : FootL g q k) : B ≤ k ∧ k < w.heap.size ∧ ∃ cs T, w.heap[k]? = some (.cells cs T (0, 0)) ∧ (T = 43 ∨ T = 28) := by
  obtain ⟨hB, ⟨A, c, h1, h2, h3⟩, h4⟩ := h
  rcases hk with rfl | hk
  · exact ⟨hB, (Array.getElem?_eq_some_iff.1 h1).1, _, _, h1, .inl rfl⟩
  · rw [← h3] at hk
    obtain ⟨cs, e⟩ := row_blockM h2 hk
    exact ⟨(h2.lt k hk).1, (Array.getElem?_eq_some_iff.1 e).1, cs, _, e, .inr rfl⟩
theorem LogAt.noBytes {w : World} {B g : Nat} {q : Option Nat} {base term : Int} {X : List Ent} (h : LogAt w B g q base term X) : NoBytes w (FootL g q) := fun k cs fr hk e => by
  obtain ⟨_, _, cs', T, e', hT⟩ := h.block hk
  rw [e'] at e
  injection e with e
  injection e with _ e
  rcases hT with rfl | rfl <;> exact absurd e (by decide)
theorem LogAt.apart {w : World} {B g : Nat} {q : Option Nat} {base term : Int} {X : List Ent} (h : LogAt w B g q base term X) : q ≠ some g := fun e => by
  obtain ⟨hB, ⟨A, c, h1, h2, h3⟩, h4⟩ := h
  rw [← h3] at e
  obtain ⟨cs, e'⟩ := row_blockM h2 e
  rw [h1] at e'
  injection e' with e'
  injection e' with _ e'
  exact absurd e' (by decide)
theorem LogD.noBytes {w : World} {B g : Nat} {q : Option Nat} {base term : Int} {x : List Dat} (h : LogD w B g q base term x) : NoBytes w (FootL g q) := by
  obtain ⟨X, _, h⟩ := h
  exact h.noBytes
theorem LogD.block {w : World} {B g : Nat} {q : Option Nat} {base term : Int} {x : List Dat} (h : LogD w B g q base term x) {k : Nat} (hk : FootL g q k) : B ≤ k ∧ k < w.heap.size := by
  obtain ⟨X, _, h⟩ := h
  exact ⟨(h.block hk).1, (h.block hk).2.1⟩

/-- a call that wrote the log at g: what it says now, and that nothing else has turned -/
def GrewL (B g : Nat) (q : Option Nat) (base term : Int) (x : List Dat) (w w' : World) : Prop :=
  ∃ q', LogD w' B g q' base term x ∧ (∀ k, q' = some k → q = some k ∨ w.heap.size ≤ k) ∧ Turned (FootL g q) w w'
theorem GrewL.of_below {w w' : World} {B g : Nat} {q : Option Nat} {base term : Int} {x : List Dat} (h : LogD w B g q base term x) (hb : Below w.heap.size w w') : GrewL B g q base term x w w' := ⟨q, h.below hb, fun k hk => .inl hk, .of_below hb⟩
theorem GrewL.trans {w w1 w2 : World} {B g : Nat} {q : Option Nat} {base term base' term' : Int} {x y : List Dat} (h : GrewL B g q base term x w w1) (k : ∀ q1, LogD w1 B g q1 base term x → (∀ k, q1 = some k → q = some k ∨ w.heap.size ≤ k) → GrewL B g q1 base' term' y w1 w2) : GrewL B g q base' term' y w w2 := by
  obtain ⟨q1, h1, h2, h3⟩ := h
  obtain ⟨q2, k1, k2, k3⟩ := k q1 h1 h2
  refine ⟨q2, k1, fun i hi => ?_, h3.trans k3 (fun _ e => e) fun i hi e => ?_⟩
  · rcases k2 i hi with e | e
    · exact h2 i e
    · exact .inr (Nat.le_trans h3.size e)
  · rcases e with e | e
    · exact .inl e
    · rcases h2 i e with e | e
      · exact .inr e
      · omega
/-- what stands beside it -/
theorem GrewL.other {w w' : World} {B B' g g' : Nat} {q q' : Option Nat} {base term base' term' : Int} {x x0 y : List Dat} (h : GrewL B g q base term x w w') (h0 : LogD w B g q base' term' x0) {base2 term2 : Int} (k : LogD w B' g' q' base2 term2 y) (hn : ∀ i, FootL g' q' i → ¬ FootL g q i) : LogD w' B' g' q' base2 term2 y := by
  obtain ⟨q1, h1, h2, h3⟩ := h
  exact k.turned h3 hn h0.noBytes

/-! ### a whole entry loaded, under a name -/
def ldEnt (p : Value) : Sem Value := Instr.loadAt 28 p
theorem ldEnt_eq (p : Value) : Instr.loadAt 28 p = ldEnt p := rfl
theorem ldEnt_run {w : World} {g o : Nat} {e : Ent} (h0 : w.cell? ⟨g, o, none⟩ = some (.int .i64 e.t)) (h1 : w.cell? ⟨g, o + 1, none⟩ = some (.int .i64 e.k)) (h2 : w.cell? ⟨g, o + 2, none⟩ = some (.slice e.A e.n e.c)) :
    (ldEnt (.pointer (some ⟨g, o, none⟩))).run Try.prog w = .ok (.agg #[.int .i64 e.t, .int .i64 e.k, .slice e.A e.n e.c]) w := by
  have hr : w.rangeAt g o [.int .i64 e.t, .int .i64 e.k, .slice e.A e.n e.c] := fun j v hv => by
    match j, hv with
    | 0, hv => simp at hv; subst hv; exact h0
    | 1, hv => simp at hv; subst hv; exact h1
    | 2, hv => simp at hv; subst hv; exact h2
  exact run_loadAt_mid w g o 28 [.int .i64 e.t, .int .i64 e.k, .slice e.A e.n e.c] _ hr Try.underlying28 rfl ent_size
/-- a box that holds an entry -/
theorem ent_box (w : World) (e : Ent) : ∃ W, w.alloc (.cells #[.int .i64 e.t, .int .i64 e.k, .slice e.A e.n e.c] 28) = W ∧ Below w.heap.size w W ∧ W.heap[w.heap.size]? = some (.cells #[.int .i64 e.t, .int .i64 e.k, .slice e.A e.n e.c] 28 (0, 0)) :=
  ⟨_, rfl, (Below.refl _ _).alloc (Nat.le_refl _) _, heap_alloc_new _ _⟩
end Go.Proofs.Ytigjkmlhpefafaa
