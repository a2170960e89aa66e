/-
  Joined: RlgMem, RlgFn, RlgTrm, RlgAgr, RlgCln, RlgPsh, RlgDel, RlgMat, RlgFrm, RlgGet, RlgCut. Conditions: each theorem's own.
-/
import Derived.Test.YtdlgihgdpdiglaaGreatRows
import Derived.Test.YtdlgihgdpdiglaaGreatJWords
import Derived.StillTailTactics
import Derived.BigQuiet
import Derived.BigRegion
import Derived.OwnWalk
import Derived.Deep.DeepCutAuto
import Derived.Deep.WholeRow
import Derived.Deep.QuietTactic
import Derived.Deep.RegionLaw
import Derived.Laws.Cover3
import Derived.Deep.MidRow
import Derived.Deep.RegionWith
import Derived.Lib.SliceRun
import Derived.Laws.CopyRow

section
namespace Go.Proofs.YtdlgihgdpdiglaaGreat.rl
open Go.ChangeShapes Go.WideShapes Go.ChangeAt Go.RowKit
set_option linter.unusedVariables false

/-- an entry: its term, its kind, where its bytes lie, and which they are -/
structure Ent where
  t : Int
  k : Int
  A : Option Addr
  n : Nat
  c : Nat
  bs : List UInt8
/-- what an entry says -/
abbrev Dat := Int × Int × List UInt8
def Ent.dat (e : Ent) : Dat := (e.t, e.k, e.bs)
def entC (e : Ent) : List Value := [.int .i64 e.t, .int .i64 e.k, .slice e.A e.n e.c]
def entR (e : Ent) : Array Value := #[.int .i64 e.t, .int .i64 e.k, .slice e.A e.n e.c]
def entsV (X : List Ent) : List Value := X.flatMap entC
theorem entsV_append (X Y : List Ent) : entsV (X ++ Y) = entsV X ++ entsV Y := by simp [entsV]
theorem entsV_one1 (e : Ent) : entsV [e] = entC e := by simp [entsV]
theorem entsV_length (X : List Ent) : (entsV X).length = X.length * 3 := by
  induction X with
  | nil => rfl
  | cons p r ih =>
    have : (entsV (p :: r)).length = 3 + (entsV r).length := by simp [entsV, entC]; omega
    rw [this, ih, List.length_cons]; omega
theorem entsV_get : ∀ {X : List Ent} {i : Nat} {p : Ent}, X[i]? = some p → (entsV X)[i * 3]? = some (.int .i64 p.t) ∧ (entsV X)[i * 3 + 1]? = some (.int .i64 p.k) ∧ (entsV X)[i * 3 + 2]? = some (.slice p.A p.n p.c)
  | [], _, _, h => by simp at h
  | q :: r, 0, p, h => by
    simp at h
    subst h
    exact ⟨rfl, rfl, rfl⟩
  | q :: r, i + 1, p, h => by
    have := entsV_get (X := r) (i := i) (p := p) (by simpa using h)
    have e1 : (i + 1) * 3 = (i * 3) + 1 + 1 + 1 := by omega
    rw [e1]
    exact this
theorem entsV_oneCell (X : List Ent) : ∀ u ∈ entsV X, u.oneCell' = true := by
  intro u hu
  simp only [entsV, List.mem_flatMap, entC, List.mem_cons, List.not_mem_nil, or_false] at hu
  obtain ⟨p, _, rfl | rfl | rfl⟩ := hu <;> rfl
theorem entsV_take (X : List Ent) (i : Nat) : (entsV X).take (i * 3) = entsV (X.take i) := by
  by_cases h : i ≤ X.length
  · have e : entsV X = entsV (X.take i) ++ entsV (X.drop i) := by rw [← entsV_append, List.take_append_drop]
    rw [e, List.take_append_of_le_length (by rw [entsV_length, List.length_take]; omega), List.take_of_length_le (by rw [entsV_length, List.length_take]; omega)]
  · rw [List.take_of_length_le (by rw [entsV_length]; omega), List.take_of_length_le (by omega)]
theorem entsV_drop (X : List Ent) (i : Nat) : (entsV X).drop (i * 3) = entsV (X.drop i) := by
  by_cases h : i ≤ X.length
  · have e : entsV X = entsV (X.take i) ++ entsV (X.drop i) := by rw [← entsV_append, List.take_append_drop]
    have hl : (entsV (X.take i)).length = i * 3 := by rw [entsV_length, List.length_take]; omega
    rw [e, ← hl, List.drop_left]
  · rw [List.drop_eq_nil_of_le (by rw [entsV_length]; omega), List.drop_eq_nil_of_le (by omega)]; rfl
theorem ent_info : (Tryz.prog.info? 73).map (fun i => (i.zero, i.size, i.bytes)) = some (some (.agg #[.int .i64 0, .int .i64 0, .slice none 0 0]), 3, 40) := by kernel_rfl
theorem ent_size : (Tryz.prog.info? 73).map (·.size) = some 3 := by kernel_rfl
theorem log_size : (Tryz.prog.info? 162).map (·.size) = some 3 := by kernel_rfl

/-! ### a row of elements of several cells -/
theorem own_formM {w : World} {base : Nat} {e : TypeId} {z : Nat} {v : Value} {n : Nat} {xs : List Value} (h : w.ownsRow base e z v n xs) : ∃ A c, v = .slice A n c := by
  rcases h.2 with ⟨rfl, rfl⟩ | ⟨g, cap, cur, rfl, _⟩
  · exact ⟨_, _, rfl⟩
  · exact ⟨_, _, rfl⟩
theorem own_turnedM {p : Nat → Prop} {w w' : World} {base z : Nat} {e : TypeId} {v : Value} {n : Nat} {xs : List Value} (h : Turned p w w') (ho : w.ownsRow base e z v n xs) (hn : ∀ k, v.ownBlock = some k → ¬ p k) : w'.ownsRow base e z v n xs := by
  refine ⟨ho.1, ?_⟩
  rcases ho.2 with h2 | ⟨g, cap, cur, rfl, hg, hh, r⟩
  · exact .inl h2
  · exact .inr ⟨g, cap, cur, rfl, hg, h.heap hh (hn g rfl), r⟩
theorem own_belowM {w w' : World} {b : Nat} {e : TypeId} {z : Nat} {v : Value} {n : Nat} {xs : List Value} (h : w.ownsRow b e z v n xs) (hb : Below w.heap.size w w') : w'.ownsRow b e z v n xs := own_turnedM (Turned.of_below (p := fun _ => False) hb) h fun _ _ e => e
theorem own_baseM {w : World} {b b' : Nat} {e : TypeId} {z : Nat} {v : Value} {n : Nat} {xs : List Value} (h : w.ownsRow b e z v n xs) (hb : b' ≤ b) : w.ownsRow b' e z v n xs := by
  refine ⟨h.1, ?_⟩
  rcases h.2 with h2 | ⟨g, cap, cur, rfl, hg, r⟩
  · exact .inl h2
  · exact .inr ⟨g, cap, cur, rfl, by omega, r⟩
theorem row_blockM {w : World} {base z n : Nat} {e : TypeId} {v : Value} {xs : List Value} (h : w.ownsRow base e z v n xs) {k : Nat} (hk : v.ownBlock = some k) : ∃ cs, w.heap[k]? = some (.cells cs e (0, 0)) := by
  rcases h.2 with ⟨rfl, _⟩ | ⟨g, cap, cur, rfl, _, hh, _⟩
  · cases hk
  · injection hk with hk
    subst hk
    exact ⟨cur, hh⟩
theorem own_capM {w : World} {base z n c : Nat} {A : Option Addr} {e : TypeId} {xs : List Value} (h : w.ownsRow base e z (.slice A n c) n xs) : n ≤ c ∨ (A = none ∧ n = 0 ∧ c = 0) := by
  rcases h.2 with ⟨hv, _⟩ | ⟨g', cap, cur, hv, _, _, h1, h2, _⟩
  · injection hv with h1 h2 h3
    exact .inr ⟨h1, h2, h3⟩
  · injection hv with _ _ h3
    subst h3
    exact .inl h1
theorem own_capL {w : World} {base z n c : Nat} {A : Option Addr} {e : TypeId} {xs : List Value} (h : w.ownsRow base e z (.slice A n c) n xs) : n ≤ c ∧ c ≤ maxLen := by
  rcases h.2 with ⟨hv, _⟩ | ⟨g', cap, cur, hv, _, _, h1, h2, _⟩
  · injection hv with h1 h2 h3
    subst h2; subst h3
    exact ⟨Nat.le_refl _, Nat.zero_le _⟩
  · injection hv with _ _ h3
    subst h3
    exact ⟨h1, h2⟩
/-- what a row of entries reads as -/
theorem own_seen {w : World} {base n c : Nat} {A : Option Addr} {e : TypeId} {X : List Ent} (h : w.ownsRow base e 3 (.slice A n c) n (entsV X)) : Seen w A (entsV X) := by
  rcases h.2 with ⟨hv, hn⟩ | ⟨g, cap, cur, hv, _, hh, h1, h2, h3, h4⟩
  · refine .inl ?_
    have := h.1
    exact List.length_eq_zero_iff.1 (by rw [this, hn])
  · injection hv with hA _ _
    refine .inr ⟨g, 0, hA, fun j v hj => ?_⟩
    have hjl := (List.getElem?_eq_some_iff.1 hj).1
    rw [Nat.zero_add, row_cell hh]
    rw [← h4, List.getElem?_take] at hj
    split at hj
    · simpa using hj
    · cases hj

/-! ### bytes that lie in a block of bytes -/
/-- bytes that stand at A, in a block of bytes -/
def SeenU (w : World) (A : Option Addr) (bs : List UInt8) : Prop := Seen w A (bytesV bs) ∧ (bs = [] ∨ ∃ g o cs fr, A = some ⟨g, o, none⟩ ∧ w.heap[g]? = some (.cells cs 5 fr))
/-- no block of bytes is among those of p -/
def NoBytes (w : World) (p : Nat → Prop) : Prop := ∀ k cs fr, p k → w.heap[k]? ≠ some (.cells cs 5 fr)
theorem SeenU.turned {p : Nat → Prop} {w w' : World} {A : Option Addr} {bs : List UInt8} (h : SeenU w A bs) (ht : Turned p w w') (hp : NoBytes w p) : SeenU w' A bs := by
  obtain ⟨h1, h2⟩ := h
  rcases h2 with rfl | ⟨g, o, cs, fr, rfl, hg⟩
  · exact ⟨.inl rfl, .inl rfl⟩
  · have hn : ¬ p g := fun e => hp g cs fr e hg
    exact ⟨ht.seen h1 (fun g' o' e => by injection e with e; injection e with e; subst e; exact hn), .inr ⟨g, o, cs, fr, rfl, ht.heap hg hn⟩⟩
theorem NoBytes.no (w : World) : NoBytes w (fun _ => False) := fun _ _ _ e => e.elim
theorem SeenU.below {w w' : World} {A : Option Addr} {bs : List UInt8} (h : SeenU w A bs) (hb : Below w.heap.size w w') : SeenU w' A bs := h.turned (p := fun _ => False) (.of_below hb) (NoBytes.no w)
theorem SeenU.own {w : World} {base n c : Nat} {A : Option Addr} {bs : List UInt8} (h : w.ownsRow base 5 1 (.slice A n c) n (bytesV bs)) : SeenU w A bs := by
  refine ⟨Seen.of_own h, ?_⟩
  rcases h.2 with ⟨hv, hn⟩ | ⟨g, cap, cur, hv, _, hh, _⟩
  · refine .inl ?_
    have := h.1
    rw [hn, bytes_length] at this
    exact List.length_eq_zero_iff.1 (by omega)
  · injection hv with hA _ _
    exact .inr ⟨g, 0, cur, _, hA, hh⟩
theorem SeenU.nil (w : World) (A : Option Addr) : SeenU w A [] := ⟨.inl rfl, .inl rfl⟩
/-- an entry whose bytes can be read -/
structure EntOk (w : World) (e : Ent) : Prop where
  len : e.bs.length = e.n
  small : e.n ≤ 10000
  see : SeenU w e.A e.bs
theorem EntOk.turned {p : Nat → Prop} {w w' : World} {e : Ent} (h : EntOk w e) (ht : Turned p w w') (hp : NoBytes w p) : EntOk w' e := ⟨h.len, h.small, h.see.turned ht hp⟩
theorem EntOk.below {w w' : World} {e : Ent} (h : EntOk w e) (hb : Below w.heap.size w w') : EntOk w' e := ⟨h.len, h.small, h.see.below hb⟩

/-! ### entries that a slice reads as -/
/-- the slice that begins at A reads as X -/
structure EntsAt (w : World) (A : Option Addr) (X : List Ent) : Prop where
  see : Seen w A (entsV X)
  ok : ∀ e ∈ X, EntOk w e
theorem EntsAt.below {w w' : World} {A : Option Addr} {X : List Ent} (h : EntsAt w A X) (hb : Below w.heap.size w w') : EntsAt w' A X := ⟨h.see.below hb, fun e he => (h.ok e he).below hb⟩
theorem EntsAt.turned {p : Nat → Prop} {w w' : World} {A : Option Addr} {X : List Ent} (h : EntsAt w A X) (ht : Turned p w w') (hp : NoBytes w p) (hn : ∀ g o, A = some ⟨g, o, none⟩ → ¬ p g) : EntsAt w' A X := ⟨ht.seen h.see hn, fun e he => (h.ok e he).turned ht hp⟩
theorem EntsAt.nil (w : World) (A : Option Addr) : EntsAt w A [] := ⟨.inl rfl, fun e he => by cases he⟩
/-- the k-th -/
theorem _root_.Go.Proofs.YtdlgihgdpdiglaaGreat.Seen.ent {w : World} {A : Option Addr} {X : List Ent} (h : Seen w A (entsV X)) {k : Nat} {p : Ent} (hk : X[k]? = some p) :
    ∃ g o, A = some ⟨g, o, none⟩ ∧ w.cell? ⟨g, o + k * 3, none⟩ = some (.int .i64 p.t) ∧ w.cell? ⟨g, o + k * 3 + 1, none⟩ = some (.int .i64 p.k) ∧ w.cell? ⟨g, o + k * 3 + 2, none⟩ = some (.slice p.A p.n p.c) := by
  obtain ⟨e0, e1, e2⟩ := entsV_get hk
  rcases h with h | ⟨g, o, rfl, hc⟩
  · rw [h] at e0; cases e0
  · exact ⟨g, o, rfl, by rw [hc _ _ e0], by rw [Nat.add_assoc, hc _ _ e1], by rw [Nat.add_assoc, hc _ _ e2]⟩

/-! ### a log -/
/-- the blocks of a log -/
def FootL (g : Nat) (q : Option Nat) (k : Nat) : Prop := k = g ∨ q = some k
/-- a log at g, its entries X in a row q of its own -/
structure LogAt (w : World) (B g : Nat) (q : Option Nat) (base term : Int) (X : List Ent) : Prop where
  hB : B ≤ g
  row : ∃ A c, w.heap[g]? = some (.cells #[.int .i64 base, .int .i64 term, .slice A X.length c] 162 (0, 0)) ∧ w.ownsRow B 73 3 (.slice A X.length c) X.length (entsV X) ∧ (Value.slice A X.length c).ownBlock = q
  ok : ∀ e ∈ X, EntOk w e
/-- a log at g that says x -/
def LogD (w : World) (B g : Nat) (q : Option Nat) (base term : Int) (x : List Dat) : Prop := ∃ X : List Ent, X.map Ent.dat = x ∧ LogAt w B g q base term X
theorem LogAt.turned {p : Nat → Prop} {w w' : World} {B g : Nat} {q : Option Nat} {base term : Int} {X : List Ent} (h : LogAt w B g q base term X) (ht : Turned p w w') (hn : ∀ k, FootL g q k → ¬ p k) (hp : NoBytes w p) : LogAt w' B g q base term X := by
  obtain ⟨hB, ⟨A, c, h1, h2, h3⟩, h4⟩ := h
  exact ⟨hB, ⟨A, c, ht.heap h1 (hn g (.inl rfl)), own_turnedM ht h2 (fun k hk => hn k (.inr (by rw [← h3]; exact hk))), h3⟩, fun e he => (h4 e he).turned ht hp⟩
theorem LogAt.below {w w' : World} {B g : Nat} {q : Option Nat} {base term : Int} {X : List Ent} (h : LogAt w B g q base term X) (hb : Below w.heap.size w w') : LogAt w' B g q base term X := h.turned (p := fun _ => False) (.of_below hb) (fun _ _ e => e) (NoBytes.no w)
theorem LogD.turned {p : Nat → Prop} {w w' : World} {B g : Nat} {q : Option Nat} {base term : Int} {x : List Dat} (h : LogD w B g q base term x) (ht : Turned p w w') (hn : ∀ k, FootL g q k → ¬ p k) (hp : NoBytes w p) : LogD w' B g q base term x := by
  obtain ⟨X, e, h⟩ := h
  exact ⟨X, e, h.turned ht hn hp⟩
theorem LogD.below {w w' : World} {B g : Nat} {q : Option Nat} {base term : Int} {x : List Dat} (h : LogD w B g q base term x) (hb : Below w.heap.size w w') : LogD w' B g q base term x := h.turned (p := fun _ => False) (.of_below hb) (fun _ _ e => e) (NoBytes.no w)
/-- a log's blocks -/
theorem LogAt.block {w : World} {B g : Nat} {q : Option Nat} {base term : Int} {X : List Ent} (h : LogAt w B g q base term X) {k : Nat} (hk : FootL g q k) : B ≤ k ∧ k < w.heap.size ∧ ∃ cs T, w.heap[k]? = some (.cells cs T (0, 0)) ∧ (T = 162 ∨ T = 73) := by
  obtain ⟨hB, ⟨A, c, h1, h2, h3⟩, h4⟩ := h
  rcases hk with rfl | hk
  · exact ⟨hB, (Array.getElem?_eq_some_iff.1 h1).1, _, _, h1, .inl rfl⟩
  · rw [← h3] at hk
    obtain ⟨cs, e⟩ := row_blockM h2 hk
    exact ⟨(h2.lt k hk).1, (Array.getElem?_eq_some_iff.1 e).1, cs, _, e, .inr rfl⟩
theorem LogAt.noBytes {w : World} {B g : Nat} {q : Option Nat} {base term : Int} {X : List Ent} (h : LogAt w B g q base term X) : NoBytes w (FootL g q) := fun k cs fr hk e => by
  obtain ⟨_, _, cs', T, e', hT⟩ := h.block hk
  rw [e'] at e
  injection e with e
  injection e with _ e
  rcases hT with rfl | rfl <;> exact absurd e (by decide)
theorem LogAt.apart {w : World} {B g : Nat} {q : Option Nat} {base term : Int} {X : List Ent} (h : LogAt w B g q base term X) : q ≠ some g := fun e => by
  obtain ⟨hB, ⟨A, c, h1, h2, h3⟩, h4⟩ := h
  rw [← h3] at e
  obtain ⟨cs, e'⟩ := row_blockM h2 e
  rw [h1] at e'
  injection e' with e'
  injection e' with _ e'
  exact absurd e' (by decide)
theorem LogD.noBytes {w : World} {B g : Nat} {q : Option Nat} {base term : Int} {x : List Dat} (h : LogD w B g q base term x) : NoBytes w (FootL g q) := by
  obtain ⟨X, _, h⟩ := h
  exact h.noBytes
theorem LogD.block {w : World} {B g : Nat} {q : Option Nat} {base term : Int} {x : List Dat} (h : LogD w B g q base term x) {k : Nat} (hk : FootL g q k) : B ≤ k ∧ k < w.heap.size := by
  obtain ⟨X, _, h⟩ := h
  exact ⟨(h.block hk).1, (h.block hk).2.1⟩

/-- a call that wrote the log at g: what it says now, and that nothing else has turned -/
def GrewL (B g : Nat) (q : Option Nat) (base term : Int) (x : List Dat) (w w' : World) : Prop :=
  ∃ q', LogD w' B g q' base term x ∧ (∀ k, q' = some k → q = some k ∨ w.heap.size ≤ k) ∧ Turned (FootL g q) w w'
theorem GrewL.of_below {w w' : World} {B g : Nat} {q : Option Nat} {base term : Int} {x : List Dat} (h : LogD w B g q base term x) (hb : Below w.heap.size w w') : GrewL B g q base term x w w' := ⟨q, h.below hb, fun k hk => .inl hk, .of_below hb⟩
theorem GrewL.trans {w w1 w2 : World} {B g : Nat} {q : Option Nat} {base term base' term' : Int} {x y : List Dat} (h : GrewL B g q base term x w w1) (k : ∀ q1, LogD w1 B g q1 base term x → (∀ k, q1 = some k → q = some k ∨ w.heap.size ≤ k) → GrewL B g q1 base' term' y w1 w2) : GrewL B g q base' term' y w w2 := by
  obtain ⟨q1, h1, h2, h3⟩ := h
  obtain ⟨q2, k1, k2, k3⟩ := k q1 h1 h2
  refine ⟨q2, k1, fun i hi => ?_, h3.trans k3 (fun _ e => e) fun i hi e => ?_⟩
  · rcases k2 i hi with e | e
    · exact h2 i e
    · exact .inr (Nat.le_trans h3.size e)
  · rcases e with e | e
    · exact .inl e
    · rcases h2 i e with e | e
      · exact .inr e
      · omega
/-- what stands beside it -/
theorem GrewL.other {w w' : World} {B B' g g' : Nat} {q q' : Option Nat} {base term base' term' : Int} {x x0 y : List Dat} (h : GrewL B g q base term x w w') (h0 : LogD w B g q base' term' x0) {base2 term2 : Int} (k : LogD w B' g' q' base2 term2 y) (hn : ∀ i, FootL g' q' i → ¬ FootL g q i) : LogD w' B' g' q' base2 term2 y := by
  obtain ⟨q1, h1, h2, h3⟩ := h
  exact k.turned h3 hn h0.noBytes

/-! ### a whole entry loaded, under a name -/
def ldEnt (p : Value) : Sem Value := Instr.loadAt 73 p
theorem ldEnt_eq (p : Value) : Instr.loadAt 73 p = ldEnt p := rfl
theorem ldEnt_run {w : World} {g o : Nat} {e : Ent} (h0 : w.cell? ⟨g, o, none⟩ = some (.int .i64 e.t)) (h1 : w.cell? ⟨g, o + 1, none⟩ = some (.int .i64 e.k)) (h2 : w.cell? ⟨g, o + 2, none⟩ = some (.slice e.A e.n e.c)) :
    (ldEnt (.pointer (some ⟨g, o, none⟩))).run Tryz.prog w = .ok (.agg #[.int .i64 e.t, .int .i64 e.k, .slice e.A e.n e.c]) w := by
  have hr : w.rangeAt g o [.int .i64 e.t, .int .i64 e.k, .slice e.A e.n e.c] := fun j v hv => by
    match j, hv with
    | 0, hv => simp at hv; subst hv; exact h0
    | 1, hv => simp at hv; subst hv; exact h1
    | 2, hv => simp at hv; subst hv; exact h2
  exact run_loadAt_mid w g o 73 [.int .i64 e.t, .int .i64 e.k, .slice e.A e.n e.c] _ hr Tryz.underlying73 rfl ent_size
/-- a box that holds an entry -/
theorem ent_box (w : World) (e : Ent) : ∃ W, w.alloc (.cells #[.int .i64 e.t, .int .i64 e.k, .slice e.A e.n e.c] 73) = W ∧ Below w.heap.size w W ∧ W.heap[w.heap.size]? = some (.cells #[.int .i64 e.t, .int .i64 e.k, .slice e.A e.n e.c] 73 (0, 0)) :=
  ⟨_, rfl, (Below.refl _ _).alloc (Nat.le_refl _) _, heap_alloc_new _ _⟩
end Go.Proofs.YtdlgihgdpdiglaaGreat.rl
end

section
namespace Go.Proofs.YtdlgihgdpdiglaaGreat.rl
open Go.ChangeShapes Go.WideShapes Go.ChangeAt Go.RowKit
set_option linter.unusedVariables false

theorem eql_nil (A : Option Addr) (n c : Nat) (w : World) : (binOp .eql 39 (.slice A n c) (.slice none 0 0)).run Tryz.prog w = .ok (.bool A.isNone) w := by
  simp only [binOp]
  simp [run_equal_slice_nil w 39 5 A n c Tryz.underlying39]

set_option maxRecDepth 100000 in
theorem BClone_any (A : Option Addr) (n c : Nat) (bs : List UInt8) (w : World) (hn : bs.length = n) (hl : n ≤ 10000) (h : Seen w A (bytesV bs)) :
    Calls Tryz.prog 40 #[.slice A n c] w fun e w' => ∃ A' c', e = .returned (.slice A' n c') ∧ w'.ownsRow w.heap.size 5 1 (.slice A' n c') n (bytesV bs) ∧ Below w.heap.size w w' := by
  have H := Lib.hid h; have Hn := Lib.hid hn
  cases A with
  | none =>
    obtain rfl : bs = [] := by
      rcases h with h | ⟨g, o, hA, _⟩
      · simpa [bytesV] using h
      · cases hA
    simp at hn
    subst hn
    clear h
    have he := eql_nil none 0 c
    simp only [Option.isNone_none] at he
    go_enter Tryz.func40, Tryz.ntmps40
    go_wp2
    go_ret
    exact ⟨none, 0, rfl, World.ownsRow_nil _ _ _ _, Below.refl _ _⟩
  | some ad =>
    clear h hn
    have he := eql_nil (some ad) n c
    simp only [Option.isNone_some] at he
    have hown0 : (w.alloc (.cells #[] 5)).ownsRow w.heap.size 5 1 (.slice (some ⟨w.heap.size, 0, none⟩) 0 0) 0 [] := World.ownsRow_lit w #[] 0 (Nat.le_refl _) (by unfold maxLen; omega) rfl
    have hb0 : Below w.heap.size w (w.alloc (.cells #[] 5)) := (Below.refl _ _).alloc (Nat.le_refl _) _
    have H0 := Lib.hid hown0; have Hb0 := Lib.hid hb0; clear hown0 hb0
    go_enter Tryz.func40, Tryz.ntmps40
    go_wp2_with (at_builtin; refine wpList_app rfl (.tmp 5) (.tmp 6) _ rfl 5 _ 1 Tryz.underlying39 u8_info rfl w.heap.size (some ⟨w.heap.size, 0, none⟩) 0 0 [] rfl H0.out (some ad) n c (bytesV bs) rfl (by rw [bytes_length]; exact Hn.out) (H.out.below Hb0.out) (bytes_one _) (by unfold maxLen; omega) (by omega) (by simp) ?_; intro A4 c4 w4 hown4 hb4; simp only [Nat.zero_add, List.nil_append] at hown4; have Hown4 := Lib.hid hown4; have Hb4 := Lib.hid (Hb0.out.trans hb4); clear hown4 hb4; simp only [Nat.zero_add])
    go_ret
    exact ⟨A4, c4, rfl, Hown4.out, Hb4.out⟩


/-! ### New -/
theorem New_no (a : Int) (w : World) (h : a < 0) : Calls Tryz.prog 136 #[.int .i64 a, .int .i64 0] w fun e w' => e = .returned (.pointer none) ∧ w = w' := by
  go_enter Tryz.func136, Tryz.ntmps136
  go_wp2
  go_ret
  exact ⟨rfl, rfl⟩
/-- what New hands back: a log without entries -/
def NewRet (a b : Int) (w : World) (e : Ending) (w' : World) : Prop := e = .returned (.pointer (some ⟨w.heap.size, 0, none⟩)) ∧ LogD w' w.heap.size w.heap.size none a b [] ∧ Below w.heap.size w w' ∧ w.heap.size < w'.heap.size
set_option maxRecDepth 100000 in
theorem New_yes (a b : Int) (w : World) (ha : 0 ≤ a) (hb : 0 ≤ b) : Calls Tryz.prog 136 #[.int .i64 a, .int .i64 b] w (NewRet a b w) := by
  have ha' : ¬ a < 0 := by omega
  have hb' : ¬ b < 0 := by omega
  go_enter Tryz.func136, Tryz.ntmps136
  go_wp2
  go_ret
  refine ⟨rfl, ⟨[], rfl, Nat.le_refl _, ⟨none, 0, heap_alloc_new w _, World.ownsRow_nil _ _ _ _, rfl⟩, fun e he => by cases he⟩, (Below.refl _ _).alloc (Nat.le_refl _) _, by simp⟩

/-! ### has -/
/-- the cells of a log's struct -/
theorem LogAt.cells {w : World} {B g : Nat} {q : Option Nat} {base term : Int} {X : List Ent} (h : LogAt w B g q base term X) :
    ∃ A c, w.cell? ⟨g, 0, none⟩ = some (.int .i64 base) ∧ w.cell? ⟨g, 1, none⟩ = some (.int .i64 term) ∧ w.cell? ⟨g, 2, none⟩ = some (.slice A X.length c) ∧ Seen w A (entsV X) := by
  obtain ⟨hB, ⟨A, c, h1, h2, h3⟩, h4⟩ := h
  exact ⟨A, c, row_cell h1 0, row_cell h1 1, row_cell h1 2, own_seen h2⟩
set_option maxRecDepth 100000 in
theorem has_yes (B g n : Nat) (q : Option Nat) (base term i : Int) (X : List Ent) (w : World) (h : LogAt w B g q base term X) (hn : X.length = n) (h0 : 0 ≤ base) (h1 : base < i) (h2 : i ≤ base + n) (h3 : i ≤ 9223372036854775807) :
    Calls Tryz.prog 89 #[.pointer (some ⟨g, 0, none⟩), .int .i64 i] w fun e w' => e = .returned (.bool true) ∧ Below w.heap.size w w' := by
  obtain ⟨A, c, a0, a1, a2, _⟩ := h.cells
  rw [hn] at a2
  have g1 : decide (base < i) = true := decide_eq_true h1
  have g2 : decide (i - base ≤ (n : Int)) = true := decide_eq_true (by omega)
  have hw : IntKind.i64.wrap (i - base) = i - base := by unfold IntKind.wrap; simp [IntKind.signed, IntKind.bits]; omega
  clear hn h
  go_enter Tryz.func89, Tryz.ntmps89
  go_wp2
  go_quiet (fail)
  go_wp2
  go_ret
  exact ⟨rfl, below_drewN (Below.refl _ _) _⟩
set_option maxRecDepth 100000 in
theorem has_no (B g n : Nat) (q : Option Nat) (base term i : Int) (X : List Ent) (w : World) (h : LogAt w B g q base term X) (hn : X.length = n) (h0 : 0 ≤ base) (h1 : i ≤ base ∨ base + n < i) (h3 : i ≤ 9223372036854775807) :
    Calls Tryz.prog 89 #[.pointer (some ⟨g, 0, none⟩), .int .i64 i] w fun e w' => e = .returned (.bool false) ∧ Below w.heap.size w w' := by
  obtain ⟨A, c, a0, a1, a2, _⟩ := h.cells
  rw [hn] at a2
  clear hn h
  by_cases hi : i ≤ base
  · have g1 : decide (base < i) = false := decide_eq_false (by omega)
    clear h1
    go_enter Tryz.func89, Tryz.ntmps89
    go_wp2
    go_quiet (fail)
    go_wp2
    go_ret
    exact ⟨rfl, below_drewN (Below.refl _ _) _⟩
  · have g1 : decide (base < i) = true := decide_eq_true (by omega)
    have g2 : decide (i - base ≤ (n : Int)) = false := decide_eq_false (by omega)
    have hw : IntKind.i64.wrap (i - base) = i - base := by unfold IntKind.wrap; simp [IntKind.signed, IntKind.bits]; omega
    clear h1
    go_enter Tryz.func89, Tryz.ntmps89
    go_wp2
    go_quiet (fail)
    go_wp2
    go_ret
    exact ⟨rfl, below_drewN (Below.refl _ _) _⟩
end Go.Proofs.YtdlgihgdpdiglaaGreat.rl
end

section
namespace Go.Proofs.YtdlgihgdpdiglaaGreat.rl
open Go.ChangeShapes Go.WideShapes Go.ChangeAt Go.RowKit
set_option linter.unusedVariables false

theorem i64_sub {a b : Int} (h1 : -9223372036854775808 ≤ a - b) (h2 : a - b ≤ 9223372036854775807) : IntKind.i64.wrap (a - b) = a - b := by unfold IntKind.wrap; simp [IntKind.signed, IntKind.bits]; omega
theorem i64_add {a b : Int} (h1 : -9223372036854775808 ≤ a + b) (h2 : a + b ≤ 9223372036854775807) : IntKind.i64.wrap (a + b) = a + b := by unfold IntKind.wrap; simp [IntKind.signed, IntKind.bits]; omega

set_option maxRecDepth 100000 in
theorem Term_base (B g : Nat) (q : Option Nat) (base term : Int) (X : List Ent) (w : World) (h : LogAt w B g q base term X) :
    Calls Tryz.prog 81 #[.pointer (some ⟨g, 0, none⟩), .int .i64 base] w fun e w' => e = .returned (.tuple #[.int .i64 term, .bool true]) ∧ Below w.heap.size w w' := by
  obtain ⟨A, c, a0, a1, a2, _⟩ := h.cells
  clear h
  go_enter Tryz.func81, Tryz.ntmps81
  go_wp2
  go_ret2
  exact ⟨rfl, Below.refl _ _⟩
set_option maxRecDepth 100000 in
theorem Term_in (B g k : Nat) (q : Option Nat) (base term i : Int) (X : List Ent) (p : Ent) (w : World) (h : LogAt w B g q base term X) (h0 : 0 ≤ base) (hk : X[k]? = some p) (hi : i = base + k + 1) (h3 : i ≤ 9223372036854775807) (hl : X.length ≤ 1000000) :
    Calls Tryz.prog 81 #[.pointer (some ⟨g, 0, none⟩), .int .i64 i] w fun e w' => e = .returned (.tuple #[.int .i64 p.t, .bool true]) ∧ Below w.heap.size w w' := by
  have hkl := (List.getElem?_eq_some_iff.1 hk).1
  obtain ⟨n, hn⟩ : ∃ n, X.length = n := ⟨_, rfl⟩
  have hH := has_yes B g n q base term i X w h hn h0 (by omega) (by omega) h3
  have HH := Lib.hid hH
  have H := Lib.hid h
  have Hk := Lib.hid hk
  have hne : (i == base) = false := by simp; omega
  rw [hn] at hkl
  have Hn := Lib.hid hn
  clear hH h hk hn hl
  have hsub : i - base = (k : Int) + 1 := by omega
  have hi2 : base ≤ i := by omega
  have hi4 : base + k + 1 ≤ 9223372036854775807 := by omega
  have Hsub := Lib.hid hsub
  clear hi hsub
  go_enter Tryz.func81, Tryz.ntmps81
  obtain ⟨A0, c0, b0, _⟩ := H.out.cells
  go_upto_region 4 with (go_at_call 89; refine HH.out.mono ?_; rintro e w1 ⟨rfl, hb1⟩; have Hb1 := Lib.hid hb1; clear hb1)
  obtain ⟨A, c, a0, a1, a2, hs⟩ := (H.out.below Hb1.out).cells
  obtain ⟨gA, o, rfl, c0', _, _⟩ := hs.ent Hk.out
  rw [Hn.out] at a2
  have w1' : IntKind.i64.wrap (i - base) = (k : Int) + 1 := by rw [i64_sub (by omega) (by omega)]; exact Hsub.out
  have w2' : IntKind.i64.wrap (k : Int) = (k : Int) := by have := i64_add (a := (k : Int)) (b := 0) (by omega) (by omega); simpa using this
  have k0 : (0 : Int) ≤ (k : Int) := by omega
  have k1 : (k : Int) < (n : Int) := by omega
  clear hs hne b0 hi2 hi4 h3 hkl h0
  go_quiet (fail)
  go_wp2
  go_ret2
  exact ⟨rfl, below_drewN Hb1.out _⟩
set_option maxRecDepth 100000 in
theorem Term_no (B g n : Nat) (q : Option Nat) (base term i : Int) (X : List Ent) (w : World) (h : LogAt w B g q base term X) (hn : X.length = n) (h0 : 0 ≤ base) (hi : i < base ∨ base + n < i) (h3 : i ≤ 9223372036854775807) :
    Calls Tryz.prog 81 #[.pointer (some ⟨g, 0, none⟩), .int .i64 i] w fun e w' => e = .returned (.tuple #[.int .i64 0, .bool false]) ∧ Below w.heap.size w w' := by
  have HH := Lib.hid (has_no B g n q base term i X w h hn h0 (by omega) h3)
  have hne : (i == base) = false := by simp; omega
  obtain ⟨A0, c0, b0, _⟩ := h.cells
  clear h hn hi h3 h0
  go_enter Tryz.func81, Tryz.ntmps81
  go_wp2_with (go_at_call 89; refine HH.out.mono ?_; rintro e w1 ⟨rfl, hb1⟩; have Hb1 := Lib.hid hb1; clear hb1)
  go_ret2
  exact ⟨rfl, Hb1.out⟩

/-! ### the term at an index -/
/-- the term of the last entry, or of the base -/
def lastT (term : Int) (X : List Ent) : Int := match X.getLast? with
  | none => term
  | some e => e.t
set_option maxRecDepth 100000 in
theorem Last_any (B g n : Nat) (q : Option Nat) (base term : Int) (X : List Ent) (w : World) (h : LogAt w B g q base term X) (hn : X.length = n) (h0 : 0 ≤ base) (h3 : base ≤ 4611686018427387904) (hl : n ≤ 1000000) :
    Calls Tryz.prog 35 #[.pointer (some ⟨g, 0, none⟩)] w fun e w' => e = .returned (.tuple #[.int .i64 (base + n), .int .i64 (lastT term X)]) ∧ Below w.heap.size w w' := by
  obtain ⟨A, c, a0, a1, a2, _⟩ := h.cells
  rw [hn] at a2
  have HT := Lib.hid (show ∀ w', Below w.heap.size w w' → Calls Tryz.prog 81 #[.pointer (some ⟨g, 0, none⟩), .int .i64 (base + n)] w' fun e w'' => e = .returned (.tuple #[.int .i64 (lastT term X), .bool true]) ∧ Below w'.heap.size w' w'' from fun w' hb => by
    have h' := h.below hb
    unfold lastT
    rcases hx : X.getLast? with _ | p
    · have : X = [] := by simpa using hx
      subst this
      simp at hn
      subst hn
      simpa using Term_base B g q base term [] w' h'
    · rw [List.getLast?_eq_getElem?] at hx
      have hp := (List.getElem?_eq_some_iff.1 hx).1
      exact Term_in B g (X.length - 1) q base term (base + n) X p w' h' h0 hx (by omega) (by omega) (by omega))
  obtain ⟨L, hL⟩ : ∃ L, base + (n : Int) = L := ⟨_, rfl⟩
  have hw : IntKind.i64.wrap (base + (n : Int)) = L := by rw [i64_add (by omega) (by omega)]; exact hL
  clear h hn
  rw [hL] at HT ⊢
  obtain ⟨T, hT⟩ : ∃ T, lastT term X = T := ⟨_, rfl⟩
  rw [hT] at HT ⊢
  have HL := Lib.hid hL
  clear hL hT h0 h3 hl
  go_enter Tryz.func35, Tryz.ntmps35
  go_wp2
  go_quiet (fail)
  go_wp2_with (go_at_call 81; refine (HT.out _ (below_drewN (Below.refl _ _) _)).mono ?_; rintro e w1 ⟨rfl, hb1⟩; have Hb1 := Lib.hid (show Below w.heap.size w w1 from (below_drewN (Below.refl w.heap.size w) _).trans hb1); clear hb1)
  go_ret2
  exact ⟨rfl, Hb1.out⟩
set_option maxRecDepth 100000 in
theorem next_any (B g n : Nat) (q : Option Nat) (base term : Int) (X : List Ent) (w : World) (h : LogAt w B g q base term X) (hn : X.length = n) (h0 : 0 ≤ base) (h3 : base ≤ 4611686018427387904) (hl : n ≤ 1000000) :
    Calls Tryz.prog 190 #[.pointer (some ⟨g, 0, none⟩)] w fun e w' => e = .returned (.int .i64 (base + n + 1)) ∧ Below w.heap.size w w' := by
  have HL := Lib.hid (Last_any B g n q base term X w h hn h0 h3 hl)
  obtain ⟨L, hL⟩ : ∃ L, base + (n : Int) = L := ⟨_, rfl⟩
  rw [hL] at HL ⊢
  have hne : (L == 9223372036854775807) = false := by simp; omega
  have l1 : L ≤ 4611686018428387904 := by omega
  have l0 : 0 ≤ L := by omega
  clear h hn hL
  go_enter Tryz.func190, Tryz.ntmps190
  go_wp2_with (go_at_call 35; refine HL.out.mono ?_; rintro e w1 ⟨rfl, hb1⟩; have Hb1 := Lib.hid hb1; clear hb1)
  go_ret
  exact ⟨rfl, Hb1.out⟩
end Go.Proofs.YtdlgihgdpdiglaaGreat.rl
end

section
namespace Go.Proofs.YtdlgihgdpdiglaaGreat.rl
open Go.ChangeShapes Go.WideShapes Go.ChangeAt Go.RowKit
set_option linter.unusedVariables false

/-- k is how many entries two lists have with the same terms, up to where one ends or the terms differ -/
structure IsAgree (x y : List Dat) (k : Nat) : Prop where
  lx : k ≤ x.length
  ly : k ≤ y.length
  same : ∀ (j : Nat) (a b : Dat), j < k → x[j]? = some a → y[j]? = some b → a.1 = b.1
  stop : ∀ a b : Dat, x[k]? = some a → y[k]? = some b → a.1 ≠ b.1
/-- the loop's relation -/
def AgreeAt (X Y : List Ent) (w : World) (k : Nat) (wr : World) : Prop :=
  k ≤ X.length ∧ k ≤ Y.length ∧ (∀ (j : Nat) (a b : Ent), j < k → X[j]? = some a → Y[j]? = some b → a.t = b.t) ∧ Below w.heap.size w wr
theorem AgreeAt.is {X Y : List Ent} {w wr : World} {k : Nat} (h : AgreeAt X Y w k wr) (hs : ∀ a b : Ent, X[k]? = some a → Y[k]? = some b → a.t ≠ b.t) : IsAgree (X.map Ent.dat) (Y.map Ent.dat) k := by
  obtain ⟨h1, h2, h3, _⟩ := h
  refine ⟨by simpa using h1, by simpa using h2, fun j a b hj ha hb => ?_, fun a b ha hb => ?_⟩
  · rw [List.getElem?_map, Option.map_eq_some_iff] at ha hb
    obtain ⟨a', ha, rfl⟩ := ha
    obtain ⟨b', hb, rfl⟩ := hb
    exact h3 j a' b' hj ha hb
  · rw [List.getElem?_map, Option.map_eq_some_iff] at ha hb
    obtain ⟨a', ha, rfl⟩ := ha
    obtain ⟨b', hb, rfl⟩ := hb
    exact hs a' b' ha hb
def AgreeRet (X Y : List Ent) (w : World) (e : Ending) (w' : World) : Prop := ∃ k : Nat, e = .returned (.int .i64 (k : Int)) ∧ IsAgree (X.map Ent.dat) (Y.map Ent.dat) k ∧ Below w.heap.size w w'

set_option maxRecDepth 100000 in
theorem agree_any (A C : Option Addr) (n m c d : Nat) (X Y : List Ent) (w : World) (hn : X.length = n) (hm : Y.length = m) (ha : Seen w A (entsV X)) (hb : Seen w C (entsV Y)) (hl : n ≤ 1000000) :
    Calls Tryz.prog 222 #[.slice A n c, .slice C m d] w (AgreeRet X Y w) := by
  have Ha := Lib.hid ha; have Hb := Lib.hid hb; have Hn := Lib.hid hn; have Hm := Lib.hid hm
  clear ha hb hn hm
  go_enter Tryz.func222, Tryz.ntmps222
  go_wp2
  go_step3
  go_wp2
  go_step3
  go_wp2
  go_loopw [5] (fun i wr => ∃ k : Nat, i = .int .i64 (k : Int) ∧ AgreeAt X Y w k wr) (fun i _ => n - (intOf i).toNat)
  case atStart => exact ⟨0, rfl, Nat.zero_le _, Nat.zero_le _, fun j a b hj => by omega, Below.refl _ _⟩
  case round =>
    obtain ⟨k, rfl, hrel⟩ := hrel
    have Hr := Lib.hid hrel
    obtain ⟨h1, h2, -, -⟩ := hrel
    rw [Hn.out] at h1
    rw [Hm.out] at h2
    have k0 : (0 : Int) ≤ (k : Int) := by omega
    by_cases hx : k = n
    · subst hx
      have hle : (k : Int) < 9223372036854775807 := by omega
      clear h1 h2
      go_wp2
      go_ret
      refine ⟨k, rfl, Hr.out.is fun a b h _ => ?_, Hr.out.2.2.2⟩
      have := (List.getElem?_eq_some_iff.1 h).1
      have := Hn.out
      omega
    · have e1 : ((k : Int) == (n : Int)) = false := by simp; omega
      by_cases hy : k = m
      · subst hy
        clear h1 h2 hx
        go_wp2
        go_ret
        refine ⟨k, rfl, Hr.out.is fun a b _ h => ?_, Hr.out.2.2.2⟩
        have := (List.getElem?_eq_some_iff.1 h).1
        have := Hm.out
        omega
      · have e2 : ((k : Int) == (m : Int)) = false := by simp; omega
        obtain ⟨x, hX⟩ : ∃ x, X[k]? = some x := ⟨_, List.getElem?_eq_getElem (by have := Hn.out; omega)⟩
        obtain ⟨y, hY⟩ : ∃ y, Y[k]? = some y := ⟨_, List.getElem?_eq_getElem (by have := Hm.out; omega)⟩
        obtain ⟨gx, ox, rfl, c0, _, _⟩ := (Ha.out.below Hr.out.2.2.2).ent hX
        obtain ⟨gy, oy, rfl, d0, _, _⟩ := (Hb.out.below Hr.out.2.2.2).ent hY
        have k1 : (k : Int) < (n : Int) := by omega
        have k2 : (k : Int) < (m : Int) := by omega
        have HX := Lib.hid hX; have HY := Lib.hid hY
        clear hX hY hx hy h1 h2
        by_cases ht : x.t = y.t
        · have t1 : (x.t != y.t) = false := by simp [ht]
          have Ht := Lib.hid ht
          clear ht
          go_wp2
          go_quiet (fail)
          go_wp2
          go_roundw
          case rel =>
            refine ⟨k + 1, by go_num, by have := Hn.out; omega, by have := Hm.out; omega, fun j a b hj ha hb => ?_, below_drewN Hr.out.2.2.2 _⟩
            by_cases hjk : j = k
            · subst hjk
              rw [HX.out] at ha
              rw [HY.out] at hb
              injection ha with ha
              injection hb with hb
              rw [← ha, ← hb]
              exact Ht.out
            · exact Hr.out.2.2.1 j a b (by omega) ha hb
          case measure => simp [intOf]; omega
        · have t1 : (x.t != y.t) = true := by simp [ht]
          have Ht := Lib.hid ht
          clear ht
          go_wp2
          go_quiet (fail)
          go_wp2
          go_ret
          refine ⟨k, rfl, Hr.out.is fun a b ha hb => ?_, below_drewN Hr.out.2.2.2 _⟩
          rw [HX.out] at ha
          rw [HY.out] at hb
          injection ha with ha
          injection hb with hb
          rw [← ha, ← hb]
          exact Ht.out
end Go.Proofs.YtdlgihgdpdiglaaGreat.rl
end

section
namespace Go.Proofs.YtdlgihgdpdiglaaGreat.rl
open Go.ChangeShapes Go.WideShapes Go.ChangeAt Go.RowKit
set_option linter.unusedVariables false

/-- a block of its own, written whole -/
theorem row_put {w w' : World} {g : Nat} {cs cs' : Array Value} {t : TypeId} {B : Nat} {w0 : World} (h : w.heap[g]? = some (.cells cs t (0, 0))) (hb : Below B w0 w) (hg : B ≤ g) : (w.setRow g cs').heap[g]? = some (.cells cs' t (0, 0)) ∧ Below B w0 (w.setRow g cs') :=
  ⟨setRow_heap w g cs _ t (0, 0) h, hb.trans ⟨rfl, rfl, rfl, by simp, fun q hq => setRow_other w g q _ (by omega)⟩⟩
/-- what clone hands back: the entry, its bytes in a block of their own -/
def CloneERet (e : Ent) (w : World) (en : Ending) (w' : World) : Prop :=
  ∃ A' c', en = .returned (.agg #[.int .i64 e.t, .int .i64 e.k, .slice A' e.n c']) ∧ w'.ownsRow w.heap.size 5 1 (.slice A' e.n c') e.n (bytesV e.bs) ∧ Below w.heap.size w w'
set_option maxRecDepth 100000 in
theorem clone_any (t k : Int) (A : Option Addr) (n c : Nat) (bs : List UInt8) (w : World) (hn : bs.length = n) (hl : n ≤ 10000) (hs : Seen w A (bytesV bs)) :
    Calls Tryz.prog 90 #[.agg #[.int .i64 t, .int .i64 k, .slice A n c]] w (CloneERet ⟨t, k, A, n, c, bs⟩ w) := by
  obtain ⟨w1, hw1, hb1, hh1⟩ := ent_box w ⟨t, k, A, n, c, bs⟩
  obtain ⟨w2, hw2, hb2, hh2⟩ := ent_box w1 ⟨0, 0, none, 0, 0, []⟩
  simp only at hw1 hh1 hw2 hh2
  have hh1' := (hb2.block w.heap.size (Array.getElem?_eq_some_iff.1 hh1).1).trans hh1
  have hbb := hb1.trans (hb2.mono hb1.size)
  have hc2 : w2.cell? ⟨w.heap.size, 2, none⟩ = some (.slice A n c) := row_cell hh1' 2
  have hlt1 : w.heap.size < w1.heap.size := (Array.getElem?_eq_some_iff.1 hh1).1
  have K := Lib.hid (BClone_any A n c bs w2 hn hl (hs.below hbb))
  have Hh1 := Lib.hid hh1'; have Hh2 := Lib.hid hh2; have Hb := Lib.hid hbb; have Hlt1 := Lib.hid hlt1
  clear hh1 hh1' hh2 hb1 hb2 hbb hn hs hlt1
  go_enter Tryz.func90, Tryz.ntmps90
  go_wp2_with (first
    | (go_at_call 40; refine K.out.mono ?_; rintro e w3 ⟨A3, c3, rfl, hown3, hb3⟩; have hr3 := (hb3.block w.heap.size (Array.getElem?_eq_some_iff.1 Hh1.out).1).trans Hh1.out; have hz3 := row_frozen hr3 2; have hc3 : w3.cell? ⟨w.heap.size, 2, none⟩ = some (.slice A n c) := row_cell hr3 2; have hr4 := row_set hr3 2 (.slice A3 n c3); have Hx2 := Lib.hid ((hb3.block w1.heap.size (Array.getElem?_eq_some_iff.1 Hh2.out).1).trans Hh2.out); have Hb3 := Lib.hid hb3; have Hown3 := Lib.hid hown3; have Hr4 := Lib.hid hr4; clear hown3 hb3 hr3 hr4)
    | (refine wpList_load_row rfl 73 (.tmp 1) rfl w.heap.size rfl 73 #[.int .i64 t, .int .i64 k, .slice A3 n c3] (0, 0) _ Hr4.out Tryz.underlying73 rfl ent_size ?_)
    | (refine wpList_store_row rfl 73 (.tmp 2) (.tmp 7) rfl w1.heap.size #[.int .i64 t, .int .i64 k, .slice A3 n c3] rfl rfl 73 #[.int .i64 0, .int .i64 0, .slice none 0 0] (by rw [Below.heap_setCell _ _ _ _ (by have := Hlt1.out; simp; omega)]; exact Hx2.out) ent_size rfl (by simp [Value.oneCell']) ?_))
  have hbs : Below w.heap.size w (w3.setCell ⟨w.heap.size, 2, none⟩ (.slice A3 n c3)) := (Hb.out.trans (Hb3.out.mono Hb.out.size)).setCell (p := ⟨w.heap.size, 2, none⟩) (Nat.le_refl _) _
  have hx4 : (w3.setCell ⟨w.heap.size, 2, none⟩ (.slice A3 n c3)).heap[w1.heap.size]? = some (.cells #[.int .i64 0, .int .i64 0, .slice none 0 0] 73 (0, 0)) := by rw [Below.heap_setCell _ _ _ _ (by have := Hlt1.out; simp; omega)]; exact Hx2.out
  have hfin := row_put (w' := w) (cs' := #[.int .i64 t, .int .i64 k, .slice A3 n c3]) hx4 hbs (by have := Hlt1.out; omega)
  refine bodyPost_ret (v := .agg #[.int .i64 t, .int .i64 k, .slice A3 n c3]) (results_cell_row rfl _ _ w1.heap.size 73 #[.int .i64 t, .int .i64 k, .slice A3 n c3] (0, 0) _ rfl hfin.1 Tryz.underlying73 rfl ent_size) rfl ?_
  refine ⟨A3, c3, rfl, ?_, hfin.2⟩
  have tt : Turned (fun j => j = w.heap.size ∨ j = w1.heap.size) w3 ((w3.setCell ⟨w.heap.size, 2, none⟩ (.slice A3 n c3)).setRow w1.heap.size #[.int .i64 t, .int .i64 k, .slice A3 n c3]) :=
    ((Turned.refl (fun j => j = w.heap.size) w3).setCell (b := ⟨w.heap.size, 2, none⟩) (fun _ => rfl) _).trans (q := fun j => j = w1.heap.size) ⟨rfl, rfl, rfl, by simp, fun q hq hn => setRow_other _ _ q _ hn⟩ (fun _ e => .inl e) (fun _ _ e => .inr e)
  have hz := Hb.out.size
  have h12 : w1.heap.size < w2.heap.size := (Array.getElem?_eq_some_iff.1 Hh2.out).1
  have hb0 : w.heap.size < w2.heap.size := by have := Hlt1.out; omega
  exact own_baseM (tt.own Hown3.out (fun j hj e => by have := (Hown3.out.lt j hj).1; omega)) (by omega)
end Go.Proofs.YtdlgihgdpdiglaaGreat.rl
end

section
namespace Go.Proofs.YtdlgihgdpdiglaaGreat.rl
open Go.ChangeShapes Go.WideShapes Go.ChangeAt Go.RowKit
set_option linter.unusedVariables false

/-- an entry laid behind a log's, its slice written into the struct -/
theorem LogAt.longer {w w3 w4 : World} {B g n c c' : Nat} {q : Option Nat} {base term : Int} {X : List Ent} {A A' : Option Addr} {e : Ent} (h : LogAt w B g q base term X) (hrow : w.heap[g]? = some (.cells #[.int .i64 base, .int .i64 term, .slice A n c] 162 (0, 0))) (hn : X.length = n) (hq : (Value.slice A n c).ownBlock = q)
    (hb : Below w.heap.size w w3) (he : EntOk w3 e) (hown : w4.ownsRow B 73 3 (.slice A' (n + 1) c') (n + 1) (entsV X ++ entC e)) (hg : w3.grownBy w4 (Value.slice A n c).ownBlock) (hk : ∀ k, (Value.slice A' (n + 1) c').ownBlock = some k → (Value.slice A n c).ownBlock = some k ∨ k = w3.heap.size) :
    GrewL B g q base term ((X ++ [e]).map Ent.dat) w (w4.setCell ⟨g, 2, none⟩ (.slice A' (n + 1) c')) := by
  have hlt := (Array.getElem?_eq_some_iff.1 hrow).1
  have hap := h.apart
  have hsz := hb.size
  have t4 : Turned (fun k => q = some k) w3 w4 := Turned.of_grown hg (p := fun k => q = some k) fun k e => by rw [← hq]; exact e
  have r3 := (hb.block g hlt).trans hrow
  have r4 := t4.heap r3 hap
  have t5 : Turned (FootL g q) w3 (w4.setCell ⟨g, 2, none⟩ (.slice A' (n + 1) c')) := (t4.mono (q := FootL g q) fun k _ e => .inr e).setCell (b := ⟨g, 2, none⟩) (fun _ => .inl rfl) _
  have hnb := (h.below hb).noBytes
  have hne : ∀ k, (Value.slice A' (n + 1) c').ownBlock = some k → k ≠ g := fun k hk' e => by
    rcases hk k hk' with e2 | e2
    · rw [hq, e] at e2; exact hap e2
    · omega
  have hl : (X ++ [e]).length = n + 1 := by rw [List.length_append, hn]; rfl
  refine ⟨(Value.slice A' (n + 1) c').ownBlock, ⟨X ++ [e], rfl, h.hB, ⟨A', c', ?_, ?_, by rw [hl]⟩, fun x hx => ?_⟩, fun k hk' => ?_, (Turned.of_below hb).trans t5 (p := FootL g q) (fun _ e => e) (fun _ _ e => e)⟩
  · rw [hl]; exact row_set r4 2 _
  · rw [hl, entsV_append, entsV_one1]
    exact own_turnedM ((Turned.refl (fun k => k = g) w4).setCell (b := ⟨g, 2, none⟩) (fun _ => rfl) _) hown fun k hk' e => hne k hk' e
  · rcases List.mem_append.1 hx with hx | hx
    · exact ((h.ok x hx).below hb).turned t5 hnb
    · rw [List.mem_singleton.1 hx]
      exact he.turned t5 hnb
  · rcases hk k hk' with e2 | e2
    · exact .inl (by rw [← hq]; exact e2)
    · exact .inr (by omega)

section
variable {P : Program} {w : World}
/-- an append, of elements of several cells, at a step of a region whose order is drawn; which block it may have written -/
theorem step_app3 {ops : Array Oper} {o : Oper} {a : Act} {K : Act → World → Prop} {Q : Exit → Act → World → Prop} {E : Prop} (hgd : o.guard = none) (s x : Operand) (t : TypeId)
    (ho : o.op = .call { callee := .builtin .append, args := #[s, x], argTypes := #[t, t] })
    (e : TypeId) (z : Value) (size bytes : Nat) (ht : P.underlying t = some (.slice e)) (hinfo : (P.info? e).map (fun i => (i.zero, i.size, i.bytes)) = some (some z, size, bytes)) (hz1 : z.cells.size = size) (hsz : 0 < size)
    (base : Nat) (A : Option Addr) (n c : Nat) (xs : List Value) (hs : a.eval s = .slice A n c) (hown : w.ownsRow base e size (.slice A n c) n xs)
    (g2 o2 m c2 : Nat) (news : List Value) (hx : a.eval x = .slice (some ⟨g2, o2, none⟩) m c2) (hm : news.length = m * size) (hsee : Seen w (some ⟨g2, o2, none⟩) news) (h1 : ∀ u ∈ news, u.oneCell' = true)
    (h63 : n + m ≤ maxLen) (hbytes : (n + m) * bytes ≤ 140737488355328) (hbase : base ≤ w.heap.size)
    (h : ∀ A' c' w', w'.ownsRow base e size (.slice A' (n + m) c') (n + m) (xs ++ news) → w.grownBy w' (Value.slice A n c).ownBlock → (∀ k, (Value.slice A' (n + m) c').ownBlock = some k → (Value.slice A n c).ownBlock = some k ∨ k = w.heap.size) → K (a.put o.dst (.slice A' (n + m) c')) w') : if Region.wanted o (yielded ops a.tmps) = true then Oper.wp P o a w K Q else E := by
  have hw : Region.wanted o (yielded ops a.tmps) = true := by simp [Region.wanted, hgd]
  rw [if_pos hw]
  obtain ⟨i, hi, hz, hss, hb⟩ := info_parts hinfo
  have hcells : ∀ (j : Nat) u, news[j]? = some u → w.cell? ((⟨g2, o2, none⟩ : Addr).add j) = some u := by
    intro j u hu
    rcases hsee with rfl | ⟨g, o, hA, hc⟩
    · simp at hu
    · injection hA with hA
      rw [hA, Addr.add_lit]
      exact hc j u hu
  obtain ⟨v', w', hrun, hown', hg, _, hblk⟩ := run_append_own_at (P := P) w base t o.type e i z size bytes ht hi hz hss hb hz1 hsz _ n xs hown ⟨g2, o2, none⟩ m c2 news hm hcells h1 h63 hbytes hbase
  obtain ⟨A', c', rfl⟩ := own_formM hown'
  unfold Oper.wp execOp
  simp only [ho, resolve, invoke, builtin, Sem.run_bind, Sem.run_pure, Result.andThen_ok, List.map_toArray, List.map_cons, List.map_nil, hs, hx, hrun]
  refine h A' c' w' hown' hg fun k hk => ?_
  rcases hblk with h | h
  · exact .inl (by rw [← h]; exact hk)
  · rw [h] at hk
    injection hk with hk
    exact .inr hk.symm
end

attribute [local go_sem ↓] ldEnt_eq
/-- what Push hands back -/
def PushRet (B g n : Nat) (q : Option Nat) (base term : Int) (x : List Dat) (w : World) (en : Ending) (w' : World) : Prop := en = .returned (.int .i64 (base + n + 1)) ∧ GrewL B g q base term x w w'
set_option maxRecDepth 100000 in
set_option maxHeartbeats 2000000 in
theorem Push_at (B g n : Nat) (q : Option Nat) (base term : Int) (X : List Ent) (e : Ent) (w : World) (h : LogAt w B g q base term X) (hn : X.length = n) (h0 : 0 ≤ base) (h3 : base ≤ 4611686018427387904) (hl : n ≤ 100000) (he : e.bs.length = e.n) (hel : e.n ≤ 10000) (hes : Seen w e.A (bytesV e.bs)) (hBw : B ≤ w.heap.size) :
    Calls Tryz.prog 140 #[.pointer (some ⟨g, 0, none⟩), .agg #[.int .i64 e.t, .int .i64 e.k, .slice e.A e.n e.c]] w (PushRet B g n q base term ((X ++ [e]).map Ent.dat) w) := by
  obtain ⟨y, hy⟩ : ∃ y, (X ++ [e]).map Ent.dat = y := ⟨_, rfl⟩
  rw [hy]
  have Hy := Lib.hid hy
  clear hy
  obtain ⟨w1, hw1, hb1, hh1⟩ := ent_box w e
  have H := Lib.hid h; have Hn := Lib.hid hn; have He := Lib.hid he; have Hes := Lib.hid (hes.below hb1); have Hb1 := Lib.hid hb1
  have KN := Lib.hid (next_any B g n q base term X w1 (h.below hb1) hn h0 h3 (by omega))
  have Hh1 := Lib.hid hh1
  obtain ⟨A, c, hrow, hown, hq⟩ := h.row
  rw [hn] at hrow hown hq
  have Hrow := Lib.hid hrow; have Hown := Lib.hid hown; have Hq := Lib.hid hq
  clear h hn he hes hb1 hh1 hrow hown hq
  go_enter Tryz.func140, Tryz.ntmps140
  go_upto_region 3 with (go_at_call 190; refine KN.out.mono ?_; rintro en w2 ⟨rfl, hb2⟩; have Hb2 := Lib.hid hb2; clear hb2)
  have hbw2 : Below w.heap.size w w2.drew := (Hb1.out.trans (Hb2.out.mono Hb1.out.size)).drew
  have hx2 := (Hb2.out.block w.heap.size (Array.getElem?_eq_some_iff.1 Hh1.out).1).trans Hh1.out
  have hx2d : w2.drew.heap[w.heap.size]? = some (.cells #[.int .i64 e.t, .int .i64 e.k, .slice e.A e.n e.c] 73 (0, 0)) := hx2
  have hld := ldEnt_run (e := e) (row_cell hx2d 0) (row_cell hx2d 1) (row_cell hx2d 2)
  have a2 : w2.drew.cell? ⟨g, 2, none⟩ = some (.slice A n c) := (hbw2.cell (p := ⟨g, 2, none⟩) (Array.getElem?_eq_some_iff.1 Hrow.out).1).trans (row_cell Hrow.out 2)
  have KC := Lib.hid (clone_any e.t e.k e.A e.n e.c e.bs w2.drew He.out hel (Hes.out.below (below_drewN Hb2.out 1)))
  have Hbw2 := Lib.hid hbw2
  clear hbw2 hx2 hx2d
  go_region_law (first
    | (go_simp; go_at_call 90; go_loud (refine KC.out.mono ?_; rintro en w5 ⟨A5, c5, rfl, hown5, hb5⟩; simp only at hown5; obtain ⟨w6, hw6, hb6, hh6⟩ := ent_box w5 ⟨e.t, e.k, A5, e.n, c5, e.bs⟩; simp only at hw6 hh6; have b5 := Hbw2.out.trans (hb5.mono Hbw2.out.size); have b6 := b5.trans (hb6.mono b5.size); have a5 : w5.cell? ⟨g, 2, none⟩ = some (.slice A n c) := (b5.cell (p := ⟨g, 2, none⟩) (Array.getElem?_eq_some_iff.1 Hrow.out).1).trans (row_cell Hrow.out 2); have a6 : w6.cell? ⟨g, 2, none⟩ = some (.slice A n c) := (b6.cell (p := ⟨g, 2, none⟩) (Array.getElem?_eq_some_iff.1 Hrow.out).1).trans (row_cell Hrow.out 2); have Hown6 := Lib.hid (own_below hown5 hb6); have Hown := Lib.hid (own_belowM Hown.out b6); have Hb6 := Lib.hid b6; have Hsee6 := Lib.hid (Seen.of_cells hh6); clear hown5 hb5 hb6 hh6 b5 b6))
    | (refine step_app3 (by rfl) (.tmp 14) (.tmp 17) _ (by rfl) 73 _ 3 40 Tryz.underlying112 ent_info rfl (by omega) B A n c (entsV X) (by rfl) Hown.out w5.heap.size 0 1 1 (entC ⟨e.t, e.k, A5, e.n, c5, e.bs⟩) (by rfl) rfl Hsee6.out (by simp [entC, Value.oneCell']) (by unfold maxLen; omega) (by omega) (by have := Hb6.out.size; omega) ?_; intro A7 c7 w7 hown7 hg7 hk7; have Hown7 := Lib.hid hown7; have Hg7 := Lib.hid hg7; have Hk7 := Lib.hid hk7; have t7 := Turned.of_grown (p := fun k => (Value.slice A n c).ownBlock = some k) hg7 (fun k e => e); have r7 := t7.heap ((Hb6.out.block g (Array.getElem?_eq_some_iff.1 Hrow.out).1).trans Hrow.out) (fun e => H.out.apart (by rw [← Hq.out]; exact e)); have a7 := row_cell r7 2; have z7 := row_frozen r7 2; clear hown7 hg7 hk7 t7 r7))
  all_goals
    go_wp2
    go_ret
    have hL := H.out.longer (e := ⟨e.t, e.k, A5, e.n, c5, e.bs⟩) Hrow.out Hn.out Hq.out Hb6.out ⟨He.out, hel, SeenU.own Hown6.out⟩ Hown7.out Hg7.out Hk7.out
    have hd : (X ++ [(⟨e.t, e.k, A5, e.n, c5, e.bs⟩ : Ent)]).map Ent.dat = (X ++ [e]).map Ent.dat := by simp [Ent.dat]
    rw [hd, Hy.out] at hL
    have HL := Lib.hid hL
    unfold PushRet
    exact ⟨rfl, HL.out⟩
/-- Push at a log that says x -/
theorem Push_any (B g n : Nat) (q : Option Nat) (base term : Int) (x : List Dat) (t k : Int) (A : Option Addr) (m c : Nat) (bs : List UInt8) (w : World) (h : LogD w B g q base term x) (hn : x.length = n) (h0 : 0 ≤ base) (h3 : base ≤ 4611686018427387904) (hl : n ≤ 100000) (he : bs.length = m) (hel : m ≤ 10000) (hes : Seen w A (bytesV bs)) (hBw : B ≤ w.heap.size) :
    Calls Tryz.prog 140 #[.pointer (some ⟨g, 0, none⟩), .agg #[.int .i64 t, .int .i64 k, .slice A m c]] w (PushRet B g n q base term (x ++ [(t, k, bs)]) w) := by
  obtain ⟨X, rfl, h⟩ := h
  have := Push_at B g n q base term X ⟨t, k, A, m, c, bs⟩ w h (by simpa using hn) h0 h3 hl he hel hes hBw
  simpa [Ent.dat] using this
end Go.Proofs.YtdlgihgdpdiglaaGreat.rl
end

section
namespace Go.Proofs.YtdlgihgdpdiglaaGreat.rl
open Go.ChangeShapes Go.WideShapes Go.ChangeAt Go.RowKit
set_option linter.unusedVariables false

section
variable {P : Program} {w : World}
theorem run_app_none (t ty e : TypeId) (z : Value) (size bytes : Nat) (ht : P.underlying t = some (.slice e)) (hinfo : (P.info? e).map (fun i => (i.zero, i.size, i.bytes)) = some (some z, size, bytes)) (a0 b : Addr) (i c c2 : Nat) (hic : i ≤ c) :
    (Builtin.append_ #[t, t] ty #[.slice (some a0) i c, .slice (some b) 0 c2]).run P w = .ok (.slice (some a0) i c) w := by
  obtain ⟨j, hi, hz, hs, hb⟩ := info_parts hinfo
  simp [Builtin.append_, run_underlying ht, sizeOf, typeInfo, hi, Builtin.lenOf, Builtin.firstCells, hic, storeCells, loadCells, loadCellsFrom]
/-- an append of nothing, at a step of a region whose order is drawn -/
theorem step_app_none {ops : Array Oper} {o : Oper} {a : Act} {K : Act → World → Prop} {Q : Exit → Act → World → Prop} {E : Prop} (hgd : o.guard = none) (s x : Operand) (t : TypeId)
    (ho : o.op = .call { callee := .builtin .append, args := #[s, x], argTypes := #[t, t] })
    (e : TypeId) (z : Value) (size bytes : Nat) (ht : P.underlying t = some (.slice e)) (hinfo : (P.info? e).map (fun i => (i.zero, i.size, i.bytes)) = some (some z, size, bytes))
    (a0 b : Addr) (i c c2 : Nat) (hs : a.eval s = .slice (some a0) i c) (hx : a.eval x = .slice (some b) 0 c2) (hic : i ≤ c)
    (h : K (a.put o.dst (.slice (some a0) i c)) w) : if Region.wanted o (yielded ops a.tmps) = true then Oper.wp P o a w K Q else E := by
  have hw : Region.wanted o (yielded ops a.tmps) = true := by simp [Region.wanted, hgd]
  rw [if_pos hw]
  have hrun := run_app_none (P := P) (w := w) t o.type e z size bytes ht hinfo a0 b i c c2 hic
  unfold Oper.wp execOp
  simp only [ho, resolve, invoke, builtin, Sem.run_bind, Sem.run_pure, Result.andThen_ok, List.map_toArray, List.map_cons, List.map_nil, hs, hx, hrun]
  exact h
/-- clear, of elements of several cells -/
theorem run_clear_row (t e ty : TypeId) (z : Value) (ht : P.underlying t = some (.slice e)) (hv : ∀ w, (zeroValue e).run P w = .ok z w) (g o m c : Nat) (cur : Array Value) (hg : w.heap[g]? = some (.cells cur e (0, 0))) (hm : 0 < m)
    (h1 : ∀ u ∈ (Builtin.zeroCells z.cells m).toList, u.oneCell' = true) (hfit : o + m * z.cells.size ≤ cur.size) :
    ∃ cur' : Array Value, (Builtin.clear_ #[t] ty #[.slice (some ⟨g, o, none⟩) m c]).run P w = .ok (.tuple #[]) (w.setRow g cur') ∧ cur'.size = cur.size ∧ cur'.toList.take o = cur.toList.take o := by
  have hl : (Builtin.zeroCells z.cells m).toList.length = m * z.cells.size := by rw [Array.length_toList, size_zeroCells]
  have hst := run_storeCells_at P g o e (Builtin.zeroCells z.cells m).toList 0 cur w hg (by rw [hl]; omega) h1
  rw [Nat.add_zero, hl] at hst
  obtain ⟨cur', hc⟩ : ∃ cur' : Array Value, cur' = (cur.toList.take o ++ (Builtin.zeroCells z.cells m).toList ++ cur.toList.drop (o + m * z.cells.size)).toArray := ⟨_, rfl⟩
  rw [← hc] at hst
  refine ⟨cur', ?_, ?_, ?_⟩
  · clear hc hl
    obtain ⟨k, rfl⟩ : ∃ k, m = k + 1 := ⟨m - 1, by omega⟩
    simp [Builtin.clear_, run_underlying ht, hv, hst]
  · rw [hc]
    simp only [List.size_toArray, List.length_append, List.length_take, List.length_drop, hl, Array.length_toList]
    omega
  · rw [hc, List.append_assoc, List.take_append_of_le_length (by simp; omega), List.take_of_length_le (by simp; omega)]
end
theorem zero_ent (w : World) : (zeroValue 73).run Tryz.prog w = .ok (.agg #[.int .i64 0, .int .i64 0, .slice none 0 0]) w := by kernel_rfl
theorem zero_cells (m : Nat) : ∀ u ∈ (Builtin.zeroCells (Value.agg #[.int .i64 0, .int .i64 0, .slice none 0 0]).cells m).toList, u.oneCell' = true := by
  intro u hu
  simp only [Builtin.zeroCells, Array.toList_map, List.mem_map] at hu
  obtain ⟨i, _, rfl⟩ := hu
  have h3 : (Value.agg #[.int .i64 0, .int .i64 0, .slice none 0 0]).cells.size = 3 := rfl
  rw [h3]
  have : i % 3 < 3 := Nat.mod_lt _ (by omega)
  match i % 3, this with
  | 0, _ => rfl
  | 1, _ => rfl
  | 2, _ => rfl

/-- what Delete hands back: the row's beginning -/
def DelRet (B i c : Nat) (A : Option Addr) (X : List Ent) (w : World) (e : Ending) (w' : World) : Prop :=
  e = .returned (.slice A i c) ∧ w'.ownsRow B 73 3 (.slice A i c) i (entsV (X.take i)) ∧ ∀ p : Nat → Prop, (∀ k, (Value.slice A i c).ownBlock = some k → p k) → Turned p w w'
set_option maxRecDepth 100000 in
set_option maxHeartbeats 1000000 in
theorem Delete_end (B i n c : Nat) (A : Option Addr) (X : List Ent) (w : World) (h : w.ownsRow B 73 3 (.slice A n c) n (entsV X)) (hn : X.length = n) (hi : i ≤ n) :
    Calls Tryz.prog 223 #[.slice A n c, .int .i64 i, .int .i64 n] w (DelRet B i c A X w) := by
  have hcap := own_capL h
  have hcm := hcap.2
  have hnc := hcap.1
  unfold maxLen at hcm
  have i0 : (0 : Int) ≤ (i : Int) := by omega
  have n0 : (0 : Int) ≤ (n : Int) := by omega
  have i1 : (i : Int) ≤ (n : Int) := by omega
  have n1 : (n : Int) ≤ (c : Int) := by omega
  by_cases hin : i = n
  · subst hin
    have hX : X.take i = X := List.take_of_length_le (by omega)
    have H : Hid (DelRet B i c A X w (.returned (.slice A i c)) w) := Lib.hid ⟨rfl, by rw [hX]; exact h, fun p _ => Turned.refl _ _⟩
    clear h hn hX hcap
    go_enter Tryz.func223, Tryz.ntmps223
    go_wp2
    go_ret
    exact H.out
  · rcases h.2 with ⟨hv, hn0⟩ | ⟨g, cap, cur, hv, hg, hh, h1, h2, h3, h4⟩
    · omega
    · injection hv with hA _ hc
      subst hA; subst hc
      have e1 : ((i : Int) == (n : Int)) = false := by simp; omega
      have e2 : ¬ n = i := by omega
      have e3 : ¬ c = i := by omega
      obtain ⟨cur', hrun, hs', ht'⟩ : ∃ cur' : Array Value, (∀ ty, (Builtin.clear_ #[112] ty #[.slice (some ⟨g, i * 3, none⟩) (n - i) (c - i)]).run Tryz.prog w.drew = .ok (.tuple #[]) (w.drew.setRow g cur')) ∧ cur'.size = cur.size ∧ cur'.toList.take (i * 3) = cur.toList.take (i * 3) := by
        obtain ⟨cur', hrun, hs', ht'⟩ := run_clear_row (P := Tryz.prog) (w := w.drew) 112 73 0 _ Tryz.underlying112 zero_ent g (i * 3) (n - i) (c - i) cur hh (by omega) (zero_cells _) (by have h3' : (Value.agg #[.int .i64 0, .int .i64 0, .slice none 0 0]).cells.size = 3 := rfl; rw [h3', h3]; omega)
        exact ⟨cur', fun ty => hrun, hs', ht'⟩
      have H : Hid (DelRet B i c (some ⟨g, 0, none⟩) X w (.returned (.slice (some ⟨g, 0, none⟩) i c)) (w.drew.setRow g cur')) := Lib.hid (by
        have hx : entsV (X.take i) = cur.toList.take (i * 3) := by
          rw [← entsV_take, ← h4, List.take_take]
          congr 1
          omega
        refine ⟨rfl, ⟨by rw [entsV_length, List.length_take]; omega, .inr ⟨g, c, cur', rfl, hg, setRow_heap w.drew g cur _ _ (0, 0) hh, by omega, h2, by rw [hs']; exact h3, by rw [ht', hx]⟩⟩, fun p hp => ?_⟩
        exact ⟨rfl, rfl, rfl, by simp, fun k hk hn => setRow_other _ g k _ (fun e => hn (by subst e; exact hp _ rfl))⟩)
      have j0 : (0 : Int) ≤ (i : Int) := by omega
      have j1 : (i : Int) ≤ (c : Int) := by omega
      have j2 : i ≤ c := by omega
      have j3 : i ≤ n := by omega
      have Hn := Lib.hid hn
      clear h hn hcap hh h4 h1 h2 h3 hs' ht' hin hg
      by_cases hcn : c = n
      · subst hcn
        go_enter Tryz.func223, Tryz.ntmps223
        go_wp2_with fail
        go_region_law (refine step_app_none (by rfl) (.tmp 22) (.tmp 25) _ (by rfl) 73 _ 3 40 Tryz.underlying112 ent_info ⟨g, 0, none⟩ ⟨g, 0, none⟩ i c 0 (by rfl) (by simp [Act.eval, Act.put]) j2 ?_)
        go_wp2
        go_ret
        exact H.out
      · go_enter Tryz.func223, Tryz.ntmps223
        go_wp2_with fail
        go_region_law (refine step_app_none (by rfl) (.tmp 22) (.tmp 25) _ (by rfl) 73 _ 3 40 Tryz.underlying112 ent_info ⟨g, 0, none⟩ ⟨g, n * 3, none⟩ i c (c - n) (by rfl) (by simp [Act.eval, Act.put]) j2 ?_)
        go_wp2
        go_ret
        exact H.out
end Go.Proofs.YtdlgihgdpdiglaaGreat.rl
end

section
namespace Go.Proofs.YtdlgihgdpdiglaaGreat.rl
open Go.ChangeShapes Go.WideShapes Go.ChangeAt Go.RowKit
set_option linter.unusedVariables false

theorem GrewL.step {w w1 w2 : World} {B g : Nat} {q q1 : Option Nat} {base term : Int} {y : List Dat} (h2 : ∀ k, q1 = some k → q = some k ∨ w.heap.size ≤ k) (h3 : Turned (FootL g q) w w1) (k : GrewL B g q1 base term y w1 w2) : GrewL B g q base term y w w2 := by
  obtain ⟨q2, k1, k2, k3⟩ := k
  refine ⟨q2, k1, fun i hi => ?_, h3.trans k3 (fun _ e => e) fun i hi e => ?_⟩
  · rcases k2 i hi with e | e
    · exact h2 i e
    · exact .inr (Nat.le_trans h3.size e)
  · rcases e with e | e
    · exact .inl e
    · rcases h2 i e with e | e
      · exact .inr e
      · omega

/-- the term of the base (0), or of the entry that stands at place (from 1 on) -/
def termN (term : Int) (x : List Dat) : Nat → Int
  | 0 => term
  | j + 1 => match x[j]? with
    | none => 0
    | some d => d.1
theorem Term_at (B g p : Nat) (q : Option Nat) (base term prev : Int) (X : List Ent) (w : World) (h : LogAt w B g q base term X) (h0 : 0 ≤ base) (hp : p ≤ X.length) (hi : prev = base + p) (h3 : prev ≤ 9223372036854775807) (hl : X.length ≤ 1000000) :
    Calls Tryz.prog 81 #[.pointer (some ⟨g, 0, none⟩), .int .i64 prev] w fun e w' => e = .returned (.tuple #[.int .i64 (termN term (X.map Ent.dat) p), .bool true]) ∧ Below w.heap.size w w' := by
  match p, hp, hi with
  | 0, hp, hi =>
    have hi : prev = base := by omega
    subst hi
    exact Term_base B g q prev term X w h
  | j + 1, hp, hi =>
    have hx : X[j]? = some X[j] := List.getElem?_eq_getElem (by omega)
    have := Term_in B g j q base term prev X X[j] w h h0 hx (by omega) h3 hl
    simpa [termN, List.getElem?_map, hx, Ent.dat] using this
theorem lastT_eq (term : Int) (X : List Ent) : lastT term X = termN term (X.map Ent.dat) X.length := by
  unfold lastT
  rcases hl : X.length with _ | m
  · rw [List.length_eq_zero_iff.1 hl]
    rfl
  · have hx : X[m]? = some X[m] := List.getElem?_eq_getElem (by omega)
    rw [List.getLast?_eq_getElem?, hl, Nat.add_sub_cancel, hx]
    simp [termN, List.getElem?_map, hx, Ent.dat]

set_option maxRecDepth 100000 in
theorem Match_none (B g n m : Nat) (q : Option Nat) (base term prev t : Int) (X : List Ent) (C : Option Addr) (d : Nat) (w : World) (h : LogAt w B g q base term X) (hn : X.length = n) (h0 : 0 ≤ base) (hi : prev < base ∨ base + n < prev) (h3 : prev ≤ 9223372036854775807) :
    Calls Tryz.prog 206 #[.pointer (some ⟨g, 0, none⟩), .int .i64 prev, .int .i64 t, .slice C m d] w fun e w' => e = .returned (.tuple #[.int .i64 0, .bool false]) ∧ Below w.heap.size w w' := by
  have HT := Lib.hid (Term_no B g n q base term prev X w h hn h0 hi h3)
  clear h hn h0 hi h3
  go_enter Tryz.func206, Tryz.ntmps206
  go_wp2_with (go_at_call 81; refine HT.out.mono ?_; rintro e w1 ⟨rfl, hb1⟩; have Hb1 := Lib.hid hb1; clear hb1)
  go_ret2
  exact ⟨rfl, Hb1.out⟩
set_option maxRecDepth 100000 in
theorem Match_other (B g p m : Nat) (q : Option Nat) (base term prev t : Int) (X : List Ent) (C : Option Addr) (d : Nat) (w : World) (h : LogAt w B g q base term X) (h0 : 0 ≤ base) (hp : p ≤ X.length) (hi : prev = base + p) (h3 : prev ≤ 9223372036854775807) (hl : X.length ≤ 1000000) (ht : t ≠ termN term (X.map Ent.dat) p) :
    Calls Tryz.prog 206 #[.pointer (some ⟨g, 0, none⟩), .int .i64 prev, .int .i64 t, .slice C m d] w fun e w' => e = .returned (.tuple #[.int .i64 0, .bool false]) ∧ Below w.heap.size w w' := by
  have HT := Lib.hid (Term_at B g p q base term prev X w h h0 hp hi h3 hl)
  obtain ⟨t0, ht0⟩ : ∃ t0, termN term (X.map Ent.dat) p = t0 := ⟨_, rfl⟩
  rw [ht0] at HT ht
  have hne : (t0 != t) = true := by simp; omega
  clear h h0 hi h3 ht0 ht
  go_enter Tryz.func206, Tryz.ntmps206
  go_wp2_with (go_at_call 81; refine HT.out.mono ?_; rintro e w1 ⟨rfl, hb1⟩; have Hb1 := Lib.hid hb1; clear hb1)
  go_ret2
  exact ⟨rfl, Hb1.out⟩
end Go.Proofs.YtdlgihgdpdiglaaGreat.rl
end

section
namespace Go.Proofs.YtdlgihgdpdiglaaGreat.rl
open Go.ChangeShapes Go.WideShapes Go.ChangeAt Go.RowKit
set_option linter.unusedVariables false

/-! ### a row that is filled, entry by entry -/
def RowAt (w : World) (b cnt : Nat) (Z : List Ent) : Prop := ∃ rest : List Value, w.heap[b]? = some (.cells (entsV Z ++ rest).toArray 73 (0, 0)) ∧ rest.length = (cnt - Z.length) * 3
theorem RowAt.below {w w' : World} {b cnt : Nat} {Z : List Ent} (h : RowAt w b cnt Z) (hb : Below w.heap.size w w') : RowAt w' b cnt Z := by
  obtain ⟨rest, h1, h2⟩ := h
  exact ⟨rest, (hb.block b (Array.getElem?_eq_some_iff.1 h1).1).trans h1, h2⟩
theorem RowAt.lt {w : World} {b cnt : Nat} {Z : List Ent} (h : RowAt w b cnt Z) : b < w.heap.size := by
  obtain ⟨rest, h1, h2⟩ := h
  exact (Array.getElem?_eq_some_iff.1 h1).1
def stEnt (p v : Value) : Sem Unit := Instr.storeAt 73 p v
theorem stEnt_eq (p v : Value) : Instr.storeAt 73 p v = stEnt p v := rfl
theorem turned_cells {p : Nat → Prop} {a : World} {b : Nat} (hb : b < a.heap.size → p b) : ∀ (vs : List Value) (o : Nat) (w : World), Turned p a w → Turned p a (w.setCells b o vs)
  | [], o, w, h => h
  | v :: r, o, w, h => turned_cells hb r (o + 1) (w.setCell ⟨b, o, none⟩ v) (h.setCell (b := ⟨b, o, none⟩) hb v)
theorem list_three (A R : List Value) (a b c x y z : Value) {n : Nat} (hn : A.length = n) :
    (((A ++ a :: b :: c :: R).toArray.setIfInBounds n x).setIfInBounds (n + 1) y).setIfInBounds (n + 1 + 1) z = (A ++ [x, y, z] ++ R).toArray := by
  subst hn
  apply Array.ext'
  simp [List.set_append]
  rw [if_neg (by omega), show A.length + 1 + 1 - A.length = 2 by omega]
  rfl
/-- an entry stored at its place -/
theorem RowAt.put {w : World} {b cnt j : Nat} {Z : List Ent} (h : RowAt w b cnt Z) (hj : Z.length = j) (hlt : j < cnt) (e : Ent) :
    ∃ w', (stEnt (.pointer (some ⟨b, j * 3, none⟩)) (.agg #[.int .i64 e.t, .int .i64 e.k, .slice e.A e.n e.c])).run Tryz.prog w = .ok () w' ∧ RowAt w' b cnt (Z ++ [e]) ∧ Turned (fun k => k = b) w w' := by
  obtain ⟨rest, h1, h2⟩ := h
  subst hj
  match rest, h2 with
  | [], h2 => simp at h2; omega
  | [a], h2 => simp at h2; omega
  | [a, c], h2 => simp at h2; omega
  | a :: c :: d :: rest, h2 =>
    have hsz : (entsV Z ++ a :: c :: d :: rest).toArray.size = Z.length * 3 + 3 + rest.length := by simp [entsV_length]; omega
    have hth : w.there b (Z.length * 3) 3 := fun i hi => ⟨by rw [row_cell h1, Array.getElem?_eq_getElem (by rw [hsz]; omega)]; rfl, row_frozen h1 _⟩
    refine ⟨_, run_storeAt_mid w b (Z.length * 3) 73 #[.int .i64 e.t, .int .i64 e.k, .slice e.A e.n e.c] hth ent_size (by simp [Value.oneCell']), ⟨rest, ?_, ?_⟩, turned_cells (p := fun k => k = b) (fun _ => rfl) _ _ _ (Turned.refl _ _)⟩
    · have := row_set (row_set (row_set h1 (Z.length * 3) (.int .i64 e.t)) (Z.length * 3 + 1) (.int .i64 e.k)) (Z.length * 3 + 1 + 1) (.slice e.A e.n e.c)
      rw [list_three _ _ _ _ _ _ _ _ (entsV_length Z)] at this
      rw [entsV_append, entsV_one1]
      exact this
    · simp only [List.length_cons] at h2
      rw [List.length_append, List.length_singleton]
      omega
theorem made_row {w : World} {base b n : Nat} (h : w.ownsRow base 73 3 (.slice (some ⟨b, 0, none⟩) n n) n (madeCells (Value.agg #[.int .i64 0, .int .i64 0, .slice none 0 0]).cells (n * 3)).toList) : RowAt w b n [] := by
  have hl : (madeCells (Value.agg #[.int .i64 0, .int .i64 0, .slice none 0 0]).cells (n * 3)).toList.length = n * 3 := by rw [Array.length_toList, size_madeCells]
  exact ⟨_, made_blk h hl, by rw [hl]; rfl⟩
/-- the row, when it is full -/
theorem RowAt.full {w : World} {B b cnt : Nat} {Z : List Ent} (h : RowAt w b cnt Z) (hz : Z.length = cnt) (hb : B ≤ b) (hl : cnt ≤ 1000000) : w.ownsRow B 73 3 (.slice (some ⟨b, 0, none⟩) cnt cnt) cnt (entsV Z) := by
  obtain ⟨rest, h1, h2⟩ := h
  subst hz
  rw [Nat.sub_self, Nat.zero_mul] at h2
  have := List.length_eq_zero_iff.1 h2
  subst this
  rw [List.append_nil] at h1
  refine ⟨entsV_length Z, .inr ⟨b, _, _, rfl, hb, h1, Nat.le_refl _, by unfold maxLen; omega, by simp [entsV_length], ?_⟩⟩
  simp only
  exact List.take_of_length_le (by rw [entsV_length]; omega)

/-- what From hands back: entries in a row of their own -/
def FromRet (cnt : Nat) (z : List Dat) (w : World) (en : Ending) (w' : World) : Prop :=
  ∃ A c Z, en = .returned (.slice A cnt c) ∧ w'.ownsRow w.heap.size 73 3 (.slice A cnt c) cnt (entsV Z) ∧ (∀ e ∈ Z, EntOk w' e) ∧ Z.map Ent.dat = z ∧ Below w.heap.size w w'
set_option maxRecDepth 100000 in
theorem From_none (B g n : Nat) (q : Option Nat) (base term i most : Int) (X : List Ent) (w : World) (h : LogAt w B g q base term X) (hn : X.length = n) (h0 : 0 ≤ base) (h1 : i ≤ base ∨ base + n < i) (h3 : i ≤ 9223372036854775807) :
    Calls Tryz.prog 44 #[.pointer (some ⟨g, 0, none⟩), .int .i64 i, .int .i64 most] w (FromRet 0 [] w) := by
  have KH := Lib.hid (has_no B g n q base term i X w h hn h0 h1 h3)
  clear h hn h0 h1 h3
  go_enter Tryz.func44, Tryz.ntmps44
  go_wp2_with (go_at_call 89; refine KH.out.mono ?_; rintro e w1 ⟨rfl, hb1⟩; have Hb1 := Lib.hid hb1; clear hb1)
  go_ret
  exact ⟨none, 0, [], rfl, World.ownsRow_nil _ _ _ _, (fun e he => by cases he), rfl, Hb1.out⟩

attribute [local go_sem ↓] ldEnt_eq stEnt_eq
set_option maxRecDepth 100000 in
set_option maxHeartbeats 2000000 in
theorem From_some (B g n p cnt : Nat) (q : Option Nat) (base term i most : Int) (X : List Ent) (w : World) (h : LogAt w B g q base term X) (hn : X.length = n) (h0 : 0 ≤ base) (h3 : base ≤ 4611686018427387904) (hp : p < n) (hi : i = base + p + 1) (hl : n ≤ 100000) (hm : 1 ≤ most) (hc : (most ≤ ((n - p : Nat) : Int) ∧ (cnt : Int) = most) ∨ (((n - p : Nat) : Int) < most ∧ cnt = n - p)) :
    Calls Tryz.prog 44 #[.pointer (some ⟨g, 0, none⟩), .int .i64 i, .int .i64 most] w (FromRet cnt (((X.map Ent.dat).drop p).take cnt) w) := by
  have KH := Lib.hid (has_yes B g n q base term i X w h hn h0 (by omega) (by omega) (by omega))
  have H := Lib.hid h; have Hn := Lib.hid hn
  have m1 : ¬ most < 1 := by omega
  have hcn : cnt ≤ n - p := by omega
  have hc0 : 0 < cnt := by omega
  have hmin : min most ((n - p : Nat) : Int) = (cnt : Int) := by
    rcases hc with ⟨h1, h2⟩ | ⟨h1, h2⟩
    · rw [Int.min_eq_left h1]; exact h2.symm
    · rw [Int.min_eq_right (by omega)]; omega
  have s1 : IntKind.i64.wrap (i - base) = (p : Int) + 1 := by rw [i64_sub (by omega) (by omega)]; omega
  have s2 : IntKind.i64.wrap (p : Int) = (p : Int) := by have := i64_add (a := (p : Int)) (b := 0) (by omega) (by omega); simpa using this
  have p0 : (0 : Int) ≤ (p : Int) := by omega
  have p1 : (p : Int) ≤ (n : Int) := by omega
  clear h hn hi
  go_enter Tryz.func44, Tryz.ntmps44
  go_upto_region 3 with (go_at_call 89; refine KH.out.mono ?_; rintro e w1 ⟨rfl, hb1⟩; have Hb1 := Lib.hid hb1; clear hb1)
  have H1 := Lib.hid (H.out.below Hb1.out)
  obtain ⟨A, c, hrow0, hown, hq⟩ := H.out.row
  have hrow := (Hb1.out.block g (Array.getElem?_eq_some_iff.1 hrow0).1).trans hrow0
  rw [Hn.out] at hrow hown hq
  obtain ⟨gA, cc, hf, hg1, hg2⟩ := hown.form (by omega)
  injection hf with hf1 _ hf2
  subst hf1
  subst hf2
  have hcc := own_capL hown
  have hpc : p ≤ c := by have := hcc.1; omega
  have hpc2 : ¬ c = p := by have := hcc.1; omega
  have p2 : (p : Int) ≤ (c : Int) := by omega
  have a0 : w1.cell? ⟨g, 0, none⟩ = some (.int .i64 base) := row_cell hrow 0
  have a2 : w1.cell? ⟨g, 2, none⟩ = some (.slice (some ⟨gA, 0, none⟩) n c) := row_cell hrow 2
  have Hown := Lib.hid hown
  obtain ⟨i0, hi0, hz0, hz1, hz2⟩ := info_parts ent_info
  have HI := Lib.hid (And.intro hi0 (And.intro hz0 (And.intro hz1 hz2)))
  clear hrow hrow0 hown hq hcc hi0 hz0 hz1 hz2
  go_quiet (fail)
  obtain ⟨w2, hw2, hb2⟩ : ∃ w2, w1.drewN nq = w2 ∧ Below w.heap.size w w2 := ⟨_, rfl, below_drewN Hb1.out _⟩
  rw [hw2]
  have Hb2 := Lib.hid hb2
  clear hw2 hb2 a0 a2 s1 s2
  have hcut0 : (most ≤ ((n - p : Nat) : Int) → most = (cnt : Int)) ∧ (¬ most ≤ ((n - p : Nat) : Int) → ((n - p : Nat) : Int) = (cnt : Int)) := by
    rcases hc with ⟨h1, h2⟩ | ⟨h1, h2⟩
    · exact ⟨fun _ => h2.symm, fun h => absurd h1 h⟩
    · exact ⟨fun h => by omega, fun _ => by omega⟩
  have HC0 := Lib.hid hcut0
  clear hcut0 hc hmin
  go_upto_region 4 with fail
  go_cut [8] (fun v wx => v = .slice (some ⟨w2.heap.size, 0, none⟩) cnt cnt ∧ RowAt wx w2.heap.size cnt [] ∧ Below w.heap.size w wx)
  case first =>
    by_cases hmn : most ≤ ((n - p : Nat) : Int)
    · have hmc := HC0.out.1 hmn
      have Hmc := Lib.hid hmc
      clear hmc
      go_wp2_with (at_make; go_loud (refine wpList_make_full _ rfl (.tmp 33) (.tmp 33) _ rfl w2.heap.size 73 i0 _ 3 Tryz.underlying112 HI.out.1 HI.out.2.1 HI.out.2.2.1 .i64 .i64 _ _ cnt rfl rfl (by first | exact Hmc.out | (rw [if_pos (by omega)]; exact Hmc.out)) (by first | exact Hmc.out | (rw [if_pos (by omega)]; exact Hmc.out)) (by rw [HI.out.2.2.2]; omega) (by unfold maxLen; omega) (Nat.le_refl _) ?_; intro w3 hown3 hg3; have hr3 := made_row hown3; have hb3 : Below w.heap.size w w3 := Hb2.out.grown hg3 Hb2.out.size (by simp); have Hr3 := Lib.hid hr3; have Hb3 := Lib.hid hb3; clear hown3 hg3 hr3 hb3))
      go_meet
      exact ⟨rfl, Hr3.out, Hb3.out⟩
    · have hmc := HC0.out.2 hmn
      have Hmc := Lib.hid hmc
      clear hmc
      go_wp2_with (at_make; go_loud (refine wpList_make_full _ rfl (.tmp 33) (.tmp 33) _ rfl w2.heap.size 73 i0 _ 3 Tryz.underlying112 HI.out.1 HI.out.2.1 HI.out.2.2.1 .i64 .i64 _ _ cnt rfl rfl (by first | exact Hmc.out | (rw [if_pos (by omega)]; exact Hmc.out)) (by first | exact Hmc.out | (rw [if_pos (by omega)]; exact Hmc.out)) (by rw [HI.out.2.2.2]; omega) (by unfold maxLen; omega) (Nat.le_refl _) ?_; intro w3 hown3 hg3; have hr3 := made_row hown3; have hb3 : Below w.heap.size w w3 := Hb2.out.grown hg3 Hb2.out.size (by simp); have Hr3 := Lib.hid hr3; have Hb3 := Lib.hid hb3; clear hown3 hg3 hr3 hb3))
      go_meet
      exact ⟨rfl, Hr3.out, Hb3.out⟩
  case rest =>
    obtain ⟨rfl, hr3, hb3⟩ := hcut
    have Hr3 := Lib.hid hr3; have Hb3 := Lib.hid hb3
    clear hr3 hb3
    have hw2 := Hb2.out.size
    have Hw2 := Lib.hid hw2
    clear hw2
    go_wp2
    go_loopw [37] (fun iv wr => ∃ (j : Nat) (Z : List Ent), j ≤ cnt ∧ iv = .int .i64 (j : Int) ∧ Z.length = j ∧ RowAt wr w2.heap.size cnt Z ∧ (∀ e ∈ Z, EntOk wr e) ∧ Z.map Ent.dat = (((X.map Ent.dat).drop p).take j) ∧ Below w.heap.size w wr) (fun iv _ => cnt - (intOf iv).toNat)
    case atStart => exact ⟨0, [], by omega, rfl, rfl, Hr3.out, (fun e he => by cases he), rfl, Hb3.out⟩
    case round =>
      obtain ⟨j, Z, hj, rfl, hz, hr, hok, hzd, hb⟩ := hrel
      have Hz := Lib.hid hz; have Hr := Lib.hid hr; have Hok := Lib.hid hok; have Hzd := Lib.hid hzd; have Hb := Lib.hid hb
      clear hz hr hok hzd hb
      have j0 : (0 : Int) ≤ (j : Int) := by omega
      by_cases hlt : j < cnt
      · obtain ⟨e, he⟩ : ∃ e, X[p + j]? = some e := ⟨_, List.getElem?_eq_getElem (by have := Hn.out; omega)⟩
        obtain ⟨e0, e1, e2⟩ := entsV_get he
        have hor := own_belowM Hown.out Hb.out
        have hlx : (p + j) * 3 + 2 < n * 3 := by omega
        have l0 : wr.cell? ⟨gA, (p + j) * 3, none⟩ = some (.int .i64 e.t) := by rw [hor.cellAt _ (by omega)]; exact e0
        have l1 : wr.cell? ⟨gA, (p + j) * 3 + 1, none⟩ = some (.int .i64 e.k) := by rw [hor.cellAt _ (by omega)]; exact e1
        have l2 : wr.cell? ⟨gA, (p + j) * 3 + 2, none⟩ = some (.slice e.A e.n e.c) := by rw [hor.cellAt _ (by omega)]; exact e2
        rw [show (p + j) * 3 = p * 3 + j * 3 by omega] at l0 l1 l2
        have hld := ldEnt_run l0 l1 l2
        have hoke := (H.out.ok e (List.mem_of_getElem? he)).below Hb.out
        have hel := hoke.small
        have hbl := Hr.out.lt
        have KC := Lib.hid (clone_any e.t e.k e.A e.n e.c e.bs wr hoke.len hoke.small hoke.see.1)
        have He := Lib.hid he; have Hoke := Lib.hid hoke
        clear hor hlx l0 l1 l2 e0 e1 e2 he hoke
        go_wp2_with (go_at_call 90; refine KC.out.mono ?_; rintro en w5 ⟨A5, c5, rfl, hown5, hb5⟩; simp only at hown5; obtain ⟨w6, hst, hr6, ht6⟩ := (Hr.out.below hb5).put (j := j) Hz.out hlt ⟨e.t, e.k, A5, e.n, c5, e.bs⟩; simp only at hst; have Hown5 := Lib.hid hown5; have Hb5 := Lib.hid hb5; have Hr6 := Lib.hid hr6; have Ht6 := Lib.hid ht6; clear hown5 hb5 hr6 ht6)
        go_roundw
        case rel =>
          have hnb : NoBytes w5 (fun k => k = w2.heap.size) := fun k cs fr hk e => by
            obtain ⟨rest, hh, _⟩ := Hr.out.below Hb5.out
            rw [hk, hh] at e
            injection e with e
            injection e with _ e
            exact absurd e (by decide)
          refine ⟨j + 1, Z ++ [⟨e.t, e.k, A5, e.n, c5, e.bs⟩], by omega, by go_num, by rw [List.length_append, Hz.out]; rfl, Hr6.out, fun x hx => ?_, ?_, ?_⟩
          · rcases List.mem_append.1 hx with hx | hx
            · exact ((Hok.out x hx).below Hb5.out).turned Ht6.out hnb
            · rw [List.mem_singleton.1 hx]
              exact EntOk.turned ⟨Hoke.out.len, hel, SeenU.own Hown5.out⟩ Ht6.out hnb
          · have hyj : ((X.map Ent.dat).drop p)[j]? = some (e.t, e.k, e.bs) := by
              rw [List.getElem?_drop, List.getElem?_map, He.out]
              rfl
            obtain ⟨hl, hv⟩ := List.getElem?_eq_some_iff.1 hyj
            rw [List.map_append, Hzd.out, List.take_succ_eq_append_getElem hl, hv]
            rfl
          · exact (Hb.out.trans (Hb5.out.mono Hb.out.size)).trans (Ht6.out.below (fun k e => by have := Hw2.out; omega) (by have := Hb.out.size; have := Hb5.out.size; omega))
        case measure => simp [intOf]; omega
      · obtain rfl : j = cnt := by omega
        go_wp2
        go_ret
        exact ⟨_, _, Z, rfl, Hr.out.full Hz.out Hw2.out (by omega), Hok.out, Hzd.out, Hb.out⟩
end Go.Proofs.YtdlgihgdpdiglaaGreat.rl
end

section
namespace Go.Proofs.YtdlgihgdpdiglaaGreat.rl
open Go.ChangeShapes Go.WideShapes Go.ChangeAt Go.RowKit
set_option linter.unusedVariables false

theorem results_cell_2 {P : Program} {fn : Func} {p u : Tmp} {ty : TypeId} (h : fn.results = #[.cell p ty, .tmp u]) (tmps : Array Value) (w : World) (g : Nat) (t : TypeId) (cs : Array Value) (fr : Nat × Nat) (d : TypeDesc) (b : Value)
    (hp : tmps.getD p undef = .pointer (some ⟨g, 0, none⟩)) (hb : tmps.getD u undef = b) (hg : w.heap[g]? = some (.cells cs t fr))
    (hu : P.underlying ty = some d) (hd : (match d with | .struct _ | .array _ _ => true | _ => false) = true) (hi : (P.info? ty).map (·.size) = some cs.size) :
    (results fn tmps).run P w = .ok (.tuple #[.agg cs, b]) w := by
  rw [results_cell_tmp h, hp, hb]
  simp [asAddr, run_loadVar_row w g t ty cs fr d hg hu hd hi, Result.andThen]

theorem RowAt.one {w : World} {b : Nat} {e : Ent} (h : RowAt w b 1 [e]) : w.heap[b]? = some (.cells #[.int .i64 e.t, .int .i64 e.k, .slice e.A e.n e.c] 73 (0, 0)) := by
  obtain ⟨rest, h1, h2⟩ := h
  have := List.length_eq_zero_iff.1 (show rest.length = 0 from h2)
  subst this
  exact h1
/-- what Get hands back -/
def GetRet (d : Dat) (w : World) (en : Ending) (w' : World) : Prop :=
  ∃ A c n, en = .returned (.tuple #[.agg #[.int .i64 d.1, .int .i64 d.2.1, .slice A n c], .bool true]) ∧ EntOk w' ⟨d.1, d.2.1, A, n, c, d.2.2⟩ ∧ Below w.heap.size w w'
attribute [local go_sem ↓] ldEnt_eq stEnt_eq
set_option maxRecDepth 100000 in
set_option maxHeartbeats 2000000 in
theorem Get_in (B g n p : Nat) (q : Option Nat) (base term i : Int) (X : List Ent) (e : Ent) (w : World) (h : LogAt w B g q base term X) (hn : X.length = n) (h0 : 0 ≤ base) (h3 : base ≤ 4611686018427387904) (hp : X[p]? = some e) (hi : i = base + p + 1) (hl : n ≤ 100000) :
    Calls Tryz.prog 141 #[.pointer (some ⟨g, 0, none⟩), .int .i64 i] w (GetRet e.dat w) := by
  have hpn : p < n := by have := (List.getElem?_eq_some_iff.1 hp).1; omega
  obtain ⟨w1, hw1, hb1, hh1⟩ := ent_box w ⟨0, 0, none, 0, 0, []⟩
  simp only at hw1 hh1
  have hr1 : RowAt w1 w.heap.size 1 [] := ⟨_, hh1, rfl⟩
  have KH := Lib.hid (has_yes B g n q base term i X w1 (h.below hb1) hn h0 (by omega) (by omega) (by omega))
  have H1 := Lib.hid (h.below hb1); have Hn := Lib.hid hn; have Hb1 := Lib.hid hb1; have Hr1 := Lib.hid hr1; have Hp := Lib.hid hp
  have s1 : IntKind.i64.wrap (i - base) = (p : Int) + 1 := by rw [i64_sub (by omega) (by omega)]; omega
  have s2 : IntKind.i64.wrap (p : Int) = (p : Int) := by have := i64_add (a := (p : Int)) (b := 0) (by omega) (by omega); simpa using this
  have p0 : (0 : Int) ≤ (p : Int) := by omega
  have p1 : (p : Int) < (n : Int) := by omega
  clear h hn hi hb1 hr1 hh1 hp
  go_enter Tryz.func141, Tryz.ntmps141
  go_upto_region 3 with (go_at_call 89; refine KH.out.mono ?_; rintro en w2 ⟨rfl, hb2⟩; have Hb2 := Lib.hid hb2; clear hb2)
  have H2 := Lib.hid (H1.out.below Hb2.out.drew)
  obtain ⟨A, c, a0, a1, a2, hs⟩ := H2.out.cells
  obtain ⟨gA, oA, rfl, l0, l1, l2⟩ := hs.ent Hp.out
  rw [Hn.out] at a2
  have hld := ldEnt_run l0 l1 l2
  have hok := H2.out.ok e (List.mem_of_getElem? Hp.out)
  have KC := Lib.hid (clone_any e.t e.k e.A e.n e.c e.bs w2.drew hok.len hok.small hok.see.1)
  have Hok := Lib.hid hok
  have hlt1 : w.heap.size < w2.heap.size := Nat.lt_of_lt_of_le Hr1.out.lt Hb2.out.size
  clear hs hok a1 l0 l1 l2
  go_region_with (go_at_call 90; refine KC.out.mono ?_; rintro en w5 ⟨A5, c5, rfl, hown5, hb5⟩; simp only at hown5; obtain ⟨w6, hst, hr6, ht6⟩ := ((Hr1.out.below Hb2.out.drew).below hb5).put (j := 0) rfl (by omega) ⟨e.t, e.k, A5, e.n, c5, e.bs⟩; simp only [Nat.zero_mul] at hst; have Hown5 := Lib.hid hown5; have Hb5 := Lib.hid hb5; have Hr6 := Lib.hid hr6; have Ht6 := Lib.hid ht6; clear hown5 hb5 hr6 ht6)
  all_goals
    go_wp2_with fail
    have hb5 : Below w.heap.size w w5 := (Hb1.out.trans (Hb2.out.drew.mono Hb1.out.size)).trans (Hb5.out.mono (Nat.le_of_lt hlt1))
    have hnb : NoBytes w5 (fun k => k = w.heap.size) := fun k cs fr hk e => by
      obtain ⟨rest, hh, _⟩ := (Hr1.out.below Hb2.out.drew).below Hb5.out
      rw [hk, hh] at e
      injection e with e
      injection e with _ e
      exact absurd e (by decide)
    have hfin : GetRet e.dat w (.returned (.tuple #[.agg #[.int .i64 e.t, .int .i64 e.k, .slice A5 e.n c5], .bool true])) w6 :=
      ⟨A5, c5, e.n, rfl, EntOk.turned (e := ⟨e.t, e.k, A5, e.n, c5, e.bs⟩) ⟨Hok.out.len, Hok.out.small, SeenU.own Hown5.out⟩ Ht6.out hnb, hb5.trans (Ht6.out.below (fun k e => by omega) hb5.size)⟩
    exact bodyPost_ret (v := .tuple #[.agg #[.int .i64 e.t, .int .i64 e.k, .slice A5 e.n c5], .bool true]) (results_cell_2 rfl _ _ w.heap.size 73 #[.int .i64 e.t, .int .i64 e.k, .slice A5 e.n c5] (0, 0) _ (.bool true) rfl rfl Hr6.out.one Tryz.underlying73 rfl ent_size) rfl hfin

/-! ### From at any index -/
/-- From from the entry behind place on, at most so many -/
theorem From_any (B g n p M : Nat) (q : Option Nat) (base term i : Int) (x : List Dat) (w : World) (h : LogD w B g q base term x) (hn : x.length = n) (h0 : 0 ≤ base) (h3 : base ≤ 4611686018427387904) (hp : p ≤ n) (hi : i = base + p + 1) (hl : n ≤ 100000) (hM : 1 ≤ M) (hM2 : M ≤ 1000000) :
    Calls Tryz.prog 44 #[.pointer (some ⟨g, 0, none⟩), .int .i64 i, .int .i64 (M : Int)] w (FromRet (min M (n - p)) ((x.drop p).take M) w) := by
  obtain ⟨X, rfl, h⟩ := h
  rw [List.length_map] at hn
  by_cases hpn : p = n
  · have e1 : (X.map Ent.dat).drop p = [] := List.drop_eq_nil_of_le (by rw [List.length_map]; omega)
    rw [e1, List.take_nil, show min M (n - p) = 0 by omega]
    exact From_none B g n q base term i M X w h hn h0 (by omega) (by omega)
  · have := From_some B g n p (min M (n - p)) q base term i (M : Int) X w h hn h0 h3 (by omega) hi hl (by omega) (by omega)
    have e1 : ((X.map Ent.dat).drop p).take (min M (n - p)) = ((X.map Ent.dat).drop p).take M := by
      have hlen : ((X.map Ent.dat).drop p).length = n - p := by rw [List.length_drop, List.length_map, hn]
      by_cases hc : M ≤ n - p
      · rw [Nat.min_eq_left hc]
      · rw [Nat.min_eq_right (by omega), List.take_of_length_le (by omega), List.take_of_length_le (by omega)]
    rw [e1] at this
    exact this
end Go.Proofs.YtdlgihgdpdiglaaGreat.rl
end

section
namespace Go.Proofs.YtdlgihgdpdiglaaGreat.rl
open Go.ChangeShapes Go.WideShapes Go.ChangeAt Go.RowKit
set_option linter.unusedVariables false

section
variable {P : Program} {w : World}
/-- an append of elements of several cells -/
theorem wpList_appm {ops : Array Oper} {rest : List Oper} {o : Oper} {a : Act} {Q : Exit → Act → World → Prop} (hgd : o.guard = none) (s x : Operand) (t : TypeId)
    (ho : o.op = .call { callee := .builtin .append, args := #[s, x], argTypes := #[t, t] })
    (e : TypeId) (z : Value) (size bytes : Nat) (ht : P.underlying t = some (.slice e)) (hinfo : (P.info? e).map (fun i => (i.zero, i.size, i.bytes)) = some (some z, size, bytes)) (hz1 : z.cells.size = size) (hsz : 0 < size)
    (base : Nat) (A : Option Addr) (n c : Nat) (xs : List Value) (hs : a.eval s = .slice A n c) (hown : w.ownsRow base e size (.slice A n c) n xs)
    (g2 o2 m c2 : Nat) (news : List Value) (hx : a.eval x = .slice (some ⟨g2, o2, none⟩) m c2) (hm : news.length = m * size) (hsee : Seen w (some ⟨g2, o2, none⟩) news) (h1 : ∀ u ∈ news, u.oneCell' = true)
    (h63 : n + m ≤ maxLen) (hbytes : (n + m) * bytes ≤ 140737488355328) (hbase : base ≤ w.heap.size)
    (h : ∀ A' c' w', w'.ownsRow base e size (.slice A' (n + m) c') (n + m) (xs ++ news) → w.grownBy w' (Value.slice A n c).ownBlock → wpList P ops Q rest (a.put o.dst (.slice A' (n + m) c')) w') : wpList P ops Q (o :: rest) a w :=
  wpList_plain hgd fun K hK => by
    obtain ⟨i, hi, hz, hss, hb⟩ := info_parts hinfo
    have hcells : ∀ (j : Nat) u, news[j]? = some u → w.cell? ((⟨g2, o2, none⟩ : Addr).add j) = some u := by
      intro j u hu
      rcases hsee with rfl | ⟨g, o, hA, hc⟩
      · simp at hu
      · injection hA with hA
        rw [hA, Addr.add_lit]
        exact hc j u hu
    obtain ⟨v', w', hrun, hown', hg, _, hblk⟩ := run_append_own_at (P := P) w base t o.type e i z size bytes ht hi hz hss hb hz1 hsz _ n xs hown ⟨g2, o2, none⟩ m c2 news hm hcells h1 h63 hbytes hbase
    obtain ⟨A', c', rfl⟩ := own_formM hown'
    unfold Oper.wp execOp
    simp only [ho, resolve, invoke, builtin, Sem.run_bind, Sem.run_pure, Result.andThen_ok, List.map_toArray, List.map_cons, List.map_nil, hs, hx, hrun]
    exact hK _ _ (h A' c' w' hown' hg)
end
theorem eql_nilE (A : Option Addr) (n c : Nat) (w : World) : (binOp .eql 112 (.slice A n c) (.slice none 0 0)).run Tryz.prog w = .ok (.bool A.isNone) w := by
  simp only [binOp]
  simp [run_equal_slice_nil w 112 73 A n c Tryz.underlying112]
/-- what slices.Clone hands back: the same entries in a row of its own -/
def CloneRet (X : List Ent) (n : Nat) (w : World) (en : Ending) (w' : World) : Prop :=
  ∃ A c, en = .returned (.slice A n c) ∧ w'.ownsRow w.heap.size 73 3 (.slice A n c) n (entsV X) ∧ Below w.heap.size w w'
set_option maxRecDepth 100000 in
theorem CloneE_any (A : Option Addr) (n c : Nat) (X : List Ent) (w : World) (hn : X.length = n) (hl : n ≤ 100000) (hA : ∀ a, A = some a → a.spot = none) (h : Seen w A (entsV X)) :
    Calls Tryz.prog 154 #[.slice A n c] w (CloneRet X n w) := by
  have H := Lib.hid h; have Hn := Lib.hid hn
  rcases A with _ | ⟨g, o, sp⟩
  · obtain rfl : X = [] := by
      rcases h with h | ⟨g, o, hA, _⟩
      · have := congrArg List.length h
        rw [entsV_length] at this
        exact List.length_eq_zero_iff.1 (by simp only [List.length_nil] at this; omega)
      · cases hA
    simp at hn
    subst hn
    clear h
    have he := eql_nilE none 0 c
    simp only [Option.isNone_none] at he
    go_enter Tryz.func154, Tryz.ntmps154
    go_wp2
    go_ret
    exact ⟨none, 0, rfl, World.ownsRow_nil _ _ _ _, Below.refl _ _⟩
  · obtain rfl := hA _ rfl
    clear h hn hA
    have he := eql_nilE (some ⟨g, o, none⟩) n c
    simp only [Option.isNone_some] at he
    have hown0 : (w.alloc (.cells #[] 73)).ownsRow w.heap.size 73 3 (.slice (some ⟨w.heap.size, 0, none⟩) 0 0) 0 [] := World.ownsRow_lit w #[] 0 (Nat.le_refl _) (by unfold maxLen; omega) rfl
    have hb0 : Below w.heap.size w (w.alloc (.cells #[] 73)) := (Below.refl _ _).alloc (Nat.le_refl _) _
    have H0 := Lib.hid hown0; have Hb0 := Lib.hid hb0; clear hown0 hb0
    go_enter Tryz.func154, Tryz.ntmps154
    go_wp2_with (at_builtin; refine wpList_appm rfl (.tmp 5) (.tmp 6) _ rfl 73 _ 3 40 Tryz.underlying112 ent_info rfl (by omega) w.heap.size (some ⟨w.heap.size, 0, none⟩) 0 0 [] rfl H0.out g o n c (entsV X) rfl (by rw [entsV_length, Hn.out]) (H.out.below Hb0.out) (entsV_oneCell _) (by unfold maxLen; omega) (by omega) (by simp) ?_; intro A4 c4 w4 hown4 hg4; simp only [Nat.zero_add, List.nil_append] at hown4; have Hown4 := Lib.hid hown4; have Hb4 := Lib.hid (Hb0.out.grown hg4 (by simp) (fun j hj => (H0.out.lt j hj).1)); clear hown4 hg4; simp only [Nat.zero_add])
    go_ret
    exact ⟨A4, c4, rfl, Hown4.out, Hb4.out⟩

/-- what Cut hands back -/
def CutRet (B g : Nat) (q : Option Nat) (base term : Int) (x : List Dat) (w : World) (en : Ending) (w' : World) : Prop := en = .returned (.bool true) ∧ GrewL B g q base term x w w'
set_option maxRecDepth 100000 in
theorem Cut_no (B g n : Nat) (q : Option Nat) (base term i : Int) (X : List Ent) (w : World) (h : LogAt w B g q base term X) (hn : X.length = n) (h0 : 0 ≤ base) (hi : i < base ∨ base + n < i) (h3 : i ≤ 9223372036854775807) :
    Calls Tryz.prog 94 #[.pointer (some ⟨g, 0, none⟩), .int .i64 i] w fun e w' => e = .returned (.bool false) ∧ Below w.heap.size w w' := by
  have KT := Lib.hid (Term_no B g n q base term i X w h hn h0 hi h3)
  clear h hn h0 hi h3
  go_enter Tryz.func94, Tryz.ntmps94
  go_wp2_with (go_at_call 81; refine KT.out.mono ?_; rintro en w1 ⟨rfl, hb1⟩; have Hb1 := Lib.hid hb1; clear hb1)
  go_ret
  exact ⟨rfl, Hb1.out⟩
/-- a log that is cut: its slice, its base and its term written into the struct -/
theorem LogAt.cut {w w3 : World} {B g n p c c' : Nat} {q : Option Nat} {base term i t : Int} {X : List Ent} {A A' : Option Addr} (h : LogAt w B g q base term X) (hrow : w.heap[g]? = some (.cells #[.int .i64 base, .int .i64 term, .slice A n c] 162 (0, 0))) (hl : (X.drop p).length = n - p)
    (hb : Below w.heap.size w w3) (hown : w3.ownsRow w.heap.size 73 3 (.slice A' (n - p) c') (n - p) (entsV (X.drop p))) (hBw : B ≤ w.heap.size) :
    GrewL B g q i t ((X.drop p).map Ent.dat) w (((w3.setCell ⟨g, 2, none⟩ (.slice A' (n - p) c')).setCell ⟨g, 0, none⟩ (.int .i64 i)).setCell ⟨g, 1, none⟩ (.int .i64 t)) := by
  have hlt := (Array.getElem?_eq_some_iff.1 hrow).1
  have r3 := (hb.block g hlt).trans hrow
  have r4 := row_set (row_set (row_set r3 2 (.slice A' (n - p) c')) 0 (.int .i64 i)) 1 (.int .i64 t)
  have t4 : Turned (fun k => k = g) w3 (((w3.setCell ⟨g, 2, none⟩ (.slice A' (n - p) c')).setCell ⟨g, 0, none⟩ (.int .i64 i)).setCell ⟨g, 1, none⟩ (.int .i64 t)) :=
    (((Turned.refl (fun k => k = g) w3).setCell (b := ⟨g, 2, none⟩) (fun _ => rfl) _).setCell (b := ⟨g, 0, none⟩) (fun _ => rfl) _).setCell (b := ⟨g, 1, none⟩) (fun _ => rfl) _
  have hnb : NoBytes w3 (fun k => k = g) := fun k cs fr hk => (h.below hb).noBytes k cs fr (.inl hk)
  refine ⟨(Value.slice A' (n - p) c').ownBlock, ⟨X.drop p, rfl, h.hB, ⟨A', c', ?_, ?_, by rw [hl]⟩, fun x hx => ((h.ok x (List.mem_of_mem_drop hx)).below hb).turned t4 hnb⟩, fun k hk => .inr (hown.lt k hk).1, (Turned.of_below (p := FootL g q) hb).trans t4 (fun _ e => e) (fun _ _ e => .inl e)⟩
  · rw [hl]; exact r4
  · rw [hl]
    exact own_baseM (own_turnedM t4 hown fun k hk e => by have := (hown.lt k hk).1; omega) hBw
set_option maxRecDepth 100000 in
set_option maxHeartbeats 2000000 in
theorem Cut_at (B g n p : Nat) (q : Option Nat) (base term i : Int) (X : List Ent) (w : World) (h : LogAt w B g q base term X) (hn : X.length = n) (h0 : 0 ≤ base) (h3 : base ≤ 4611686018427387904) (hp : p ≤ n) (hi : i = base + p) (hl : n ≤ 100000) (hBw : B ≤ w.heap.size) :
    Calls Tryz.prog 94 #[.pointer (some ⟨g, 0, none⟩), .int .i64 i] w (CutRet B g q i (termN term (X.map Ent.dat) p) ((X.map Ent.dat).drop p) w) := by
  have KT := Lib.hid (Term_at B g p q base term i X w h h0 (by omega) hi (by omega) (by omega))
  obtain ⟨t0, ht0⟩ : ∃ t0, termN term (X.map Ent.dat) p = t0 := ⟨_, rfl⟩
  rw [ht0] at KT ⊢
  obtain ⟨y, hy⟩ : ∃ y, (X.map Ent.dat).drop p = y := ⟨_, rfl⟩
  rw [hy]
  have Hy := Lib.hid hy
  have H := Lib.hid h; have Hn := Lib.hid hn
  have s1 : IntKind.i64.wrap (i - base) = (p : Int) := by rw [i64_sub (by omega) (by omega)]; omega
  have p0 : (0 : Int) ≤ (p : Int) := by omega
  have p1 : (p : Int) ≤ (n : Int) := by omega
  clear h hn hi ht0 hy
  go_enter Tryz.func94, Tryz.ntmps94
  go_upto_region 4 with (go_at_call 81; refine KT.out.mono ?_; rintro en w1 ⟨rfl, hb1⟩; have Hb1 := Lib.hid hb1; clear hb1)
  have H1 := Lib.hid (H.out.below Hb1.out.drew)
  obtain ⟨A, c, hrow, hown, hq⟩ := H1.out.row
  rw [Hn.out] at hrow hown hq
  have hcc := own_capL hown
  have hpc : p ≤ c := by have := hcc.1; omega
  have p2 : (p : Int) ≤ (c : Int) := by omega
  have a0 : w1.drew.cell? ⟨g, 0, none⟩ = some (.int .i64 base) := row_cell hrow 0
  have a2 : w1.drew.cell? ⟨g, 2, none⟩ = some (.slice A n c) := row_cell hrow 2
  have hld : (X.drop p).length = n - p := by rw [List.length_drop, Hn.out]
  have hA : ∀ A' c' (hs' : ∀ a, A' = some a → a.spot = none) (hs : Seen w1.drew A' (entsV (X.drop p))), Calls Tryz.prog 154 #[.slice A' (n - p) c'] w1.drew (CloneRet (X.drop p) (n - p) w1.drew) := fun A' c' hs' hs => CloneE_any A' (n - p) c' (X.drop p) w1.drew hld (by omega) hs' hs
  have hs0 := Seen.drop (own_seen hown) (k := p * 3) (cap := c * 3) (by rw [entsV_length, Hn.out]; have := hcc.1; omega)
  rw [entsV_drop] at hs0
  have hA0 : A = none ∨ ∃ gA, A = some ⟨gA, 0, none⟩ := by
    rcases hown.2 with ⟨hv, hn0⟩ | ⟨gA, cap, cur, hv, _⟩
    · injection hv with hv _ _
      exact .inl hv
    · injection hv with hv _ _
      exact .inr ⟨gA, hv⟩
  have hlt := (Array.getElem?_eq_some_iff.1 hrow).1
  have Hrow := Lib.hid hrow; have Hld := Lib.hid hld; have Hlt := Lib.hid hlt
  have hn0 : A = none → c = 0 := fun e => by
    rcases hown.2 with ⟨hv, _⟩ | ⟨gA, cap, cur, hv, _⟩
    · injection hv
    · rw [e] at hv; cases hv
  clear hrow hown hq hcc hld hlt
  by_cases hcp : c = p
  · subst hcp
    rw [if_pos rfl] at hs0
    have KC := Lib.hid (hA _ 0 (by rcases hA0 with rfl | ⟨gA, rfl⟩ <;> intro a e <;> cases e; rfl) hs0)
    clear hA hs0 hA0 hn0
    go_region_with (go_at_call 154; refine KC.out.mono ?_; rintro en w5 ⟨A5, c5, rfl, hown5, hb5⟩; have r5 := (hb5.block g Hlt.out).trans Hrow.out; have z5 := row_frozen r5 2; have e5 := row_cell r5 2; have r6 := row_set r5 2 (.slice A5 (n - c) c5); have z6 := row_frozen r6 0; have e6 := row_cell r6 0; have r7 := row_set r6 0 (.int .i64 i); have z7 := row_frozen r7 1; have e7 := row_cell r7 1; have Hown5 := Lib.hid hown5; have Hb5 := Lib.hid hb5; clear hown5 hb5 r5 r6 r7)
    all_goals
      go_wp2
      go_ret
      have hL := H1.out.cut (i := i) (t := t0) Hrow.out Hld.out Hb5.out Hown5.out (Nat.le_trans hBw (Hb1.out.drew).size)
      rw [List.map_drop, Hy.out] at hL
      exact ⟨rfl, GrewL.step (fun k e => .inl e) (Turned.of_below Hb1.out.drew) hL⟩
  · obtain ⟨gA, rfl⟩ : ∃ gA, A = some ⟨gA, 0, none⟩ := by
      rcases hA0 with rfl | h
      · exact absurd (hn0 rfl) (by omega)
      · exact h
    rw [if_neg (by omega)] at hs0
    simp only [Option.map_some, Addr.add_lit, Nat.zero_add] at hs0
    have KC := Lib.hid (hA _ (c - p) (by intro a e; cases e; rfl) hs0)
    clear hA hs0 hA0 hn0
    go_region_with (go_at_call 154; refine KC.out.mono ?_; rintro en w5 ⟨A5, c5, rfl, hown5, hb5⟩; have r5 := (hb5.block g Hlt.out).trans Hrow.out; have z5 := row_frozen r5 2; have e5 := row_cell r5 2; have r6 := row_set r5 2 (.slice A5 (n - p) c5); have z6 := row_frozen r6 0; have e6 := row_cell r6 0; have r7 := row_set r6 0 (.int .i64 i); have z7 := row_frozen r7 1; have e7 := row_cell r7 1; have Hown5 := Lib.hid hown5; have Hb5 := Lib.hid hb5; clear hown5 hb5 r5 r6 r7)
    all_goals
      go_wp2
      go_ret
      have hL := H1.out.cut (i := i) (t := t0) Hrow.out Hld.out Hb5.out Hown5.out (Nat.le_trans hBw (Hb1.out.drew).size)
      rw [List.map_drop, Hy.out] at hL
      exact ⟨rfl, GrewL.step (fun k e => .inl e) (Turned.of_below Hb1.out.drew) hL⟩
end Go.Proofs.YtdlgihgdpdiglaaGreat.rl
end
