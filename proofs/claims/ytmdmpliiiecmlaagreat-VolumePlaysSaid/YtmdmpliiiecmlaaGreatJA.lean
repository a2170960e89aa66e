/-
  Joined: Words, Kept, VolMap, Fields, Law, Nums, Fix, PolMem, VolMath, VolMem. Conditions: each theorem's own.
-/
import Derived.WalkKit
import Derived.ProofKit
import Derived.OpenShut
import Derived.Laws.CopyOwn
import Derived.Maps.AppendAt
import Derived.Deep.AppendLies
import Derived.Lib.Hide
import Derived.Deep.Draws
import Derived.Test.YtmdmpliiiecmlaaGreatProg
import Derived.Maps.RangeWalk
import Derived.Maps.OwnSet
import Derived.Laws.OwnMore
import Derived.Deep.Slices
import Derived.Deep.Fields
import Derived.ChangeSame
import Derived.Below
import Derived.Test.YtmdmpliiiecmlaaGreatRows
import Derived.WalkLawsBesides
import Derived.WalkSpells
import Derived.Deep.QuietTactic
import Derived.BigQuiet
import Derived.Deep.MidRow
import Derived.Deep.WholeRow
import Derived.StillTailTactics
import Derived.BigRegion
import Derived.OwnWalk
import Derived.Deep.DeepCutAuto
import Derived.Deep.RegionLaw
import Derived.Laws.Cover3

section
namespace Go.Proofs.YtmdmpliiiecmlaaGreat
open Go.ChangeShapes Go.WideShapes Go.ChangeAt Go.RowKit
set_option linter.unusedVariables false

/-- a byte as a cell holds it -/
def byteV (x : UInt8) : Value := .int .u8 (x.toNat : Int)
def bytesV (bs : List UInt8) : List Value := bs.map byteV

/-- the slice that begins at A reads as xs -/
def Seen (w : World) (A : Option Addr) (xs : List Value) : Prop :=
  xs = [] ∨ ∃ g o, A = some ⟨g, o, none⟩ ∧ ∀ (j : Nat) v, xs[j]? = some v → w.cell? ⟨g, o + j, none⟩ = some v

theorem Seen.nil (w : World) (A : Option Addr) : Seen w A [] := .inl rfl

theorem Seen.at_ {w : World} {A : Option Addr} {xs : List Value} (h : Seen w A xs) {j : Nat} (hj : j < xs.length) :
    ∃ g o, A = some ⟨g, o, none⟩ ∧ w.cell? ⟨g, o + j, none⟩ = some xs[j] := by
  rcases h with rfl | ⟨g, o, hA, hc⟩
  · simp at hj
  · exact ⟨g, o, hA, hc j _ (List.getElem?_eq_getElem hj)⟩

theorem Seen.byte {w : World} {A : Option Addr} {bs : List UInt8} (h : Seen w A (bytesV bs)) {j : Nat} (hj : j < bs.length) :
    ∃ g o, A = some ⟨g, o, none⟩ ∧ w.cell? ⟨g, o + j, none⟩ = some (.int .u8 ((bs[j].toNat : Nat) : Int)) := by
  obtain ⟨g, o, hA, hc⟩ := h.at_ (j := j) (by simpa [bytesV] using hj)
  exact ⟨g, o, hA, by simpa [bytesV, byteV] using hc⟩

/-- the byte at j, under a name -/
theorem Seen.byteAt {w : World} {A : Option Addr} {bs : List UInt8} (h : Seen w A (bytesV bs)) {j : Nat} (hj : j < bs.length) :
    ∃ g o x, A = some ⟨g, o, none⟩ ∧ bs[j]? = some x ∧ bs.take (j + 1) = bs.take j ++ [x] ∧ w.cell? ⟨g, o + j, none⟩ = some (.int .u8 ((x.toNat : Nat) : Int)) := by
  obtain ⟨g, o, hA, hc⟩ := h.byte hj
  exact ⟨g, o, bs[j], hA, List.getElem?_eq_getElem hj, List.take_succ_eq_append_getElem hj, hc⟩

theorem Seen.keep {w w' : World} {A : Option Addr} {xs : List Value} (h : Seen w A xs) (hk : ∀ p : Addr, p.block < w.heap.size → w'.cell? p = w.cell? p) : Seen w' A xs := by
  rcases h with rfl | ⟨g, o, hA, hc⟩
  · exact .inl rfl
  · refine .inr ⟨g, o, hA, fun j v hv => ?_⟩
    have h1 := hc j v hv
    rw [hk _ (block_lt_of_cell h1)]
    exact h1
theorem Seen.below {w w' : World} {A : Option Addr} {xs : List Value} (h : Seen w A xs) (hb : Below w.heap.size w w') : Seen w' A xs := h.keep fun _ hp => hb.cell hp
theorem Seen.alloc {w : World} {A : Option Addr} {xs : List Value} (h : Seen w A xs) (o : Obj) : Seen (w.alloc o) A xs := h.below ((Below.refl _ _).alloc (Nat.le_refl _) o)

theorem Seen.take {w : World} {A : Option Addr} {xs : List Value} (h : Seen w A xs) (k : Nat) : Seen w A (xs.take k) := by
  rcases h with rfl | ⟨g, o, hA, hc⟩
  · simp [Seen]
  · refine .inr ⟨g, o, hA, fun j v hv => ?_⟩
    rw [List.getElem?_take] at hv
    split at hv
    · exact hc j v hv
    · cases hv
/-- a cut from k on: the model lets the address stand where k is the capacity -/
theorem Seen.drop {w : World} {A : Option Addr} {xs : List Value} (h : Seen w A xs) {k cap : Nat} (hc : xs.length ≤ cap) :
    Seen w (if cap = k then A else A.map (·.add k)) (xs.drop k) := by
  by_cases hk : xs.length ≤ k
  · rw [List.drop_eq_nil_of_le hk]; exact .inl rfl
  · rw [if_neg (by omega)]
    rcases h with rfl | ⟨g, o, rfl, hc⟩
    · simp at hk
    · refine .inr ⟨g, o + k, by simp [Addr.add_lit], fun j v hv => ?_⟩
      rw [List.getElem?_drop] at hv
      have := hc (k + j) v hv
      rwa [show o + k + j = o + (k + j) by omega]

theorem Seen.of_own {w : World} {base : Nat} {e : TypeId} {A : Option Addr} {n c : Nat} {xs : List Value} (h : w.ownsRow base e 1 (.slice A n c) n xs) : Seen w A xs := by
  by_cases hx : xs = []
  · exact .inl hx
  · have hn : 0 < n := by
      have := h.1
      have : 0 < xs.length := List.length_pos_iff.2 hx
      omega
    obtain ⟨g, cap, hv, _, hlt⟩ := h.form hn
    injection hv with hA
    subst hA
    refine .inr ⟨g, 0, rfl, fun j v hv => ?_⟩
    have := h.cells (g := g) rfl j v hv
    rwa [Addr.add_lit] at this

/-- what a call hands back that it made itself: a slice over a row of its own -/
def OwnRet (e : TypeId) (xs : List Value) (w : World) (en : Ending) (w' : World) : Prop :=
  ∃ A c, en = .returned (.slice A xs.length c) ∧ w'.ownsRow w.heap.size e 1 (.slice A xs.length c) xs.length xs ∧ Below w.heap.size w w'

theorem grown_of_below {w w' : World} (h : Below w.heap.size w w') : w.grownBy w' none := ⟨h.os, h.tape, h.output, h.size, fun k hk _ => h.block k hk⟩
theorem own_below {w w' : World} {base : Nat} {e : TypeId} {v : Value} {n : Nat} {xs : List Value} (h : w.ownsRow base e 1 v n xs) (hb : Below w.heap.size w w') : w'.ownsRow base e 1 v n xs := by
  refine ⟨h.1, ?_⟩
  rcases h.2 with h2 | ⟨g, cap, cur, hv, hg, hh, r⟩
  · exact .inl h2
  · exact .inr ⟨g, cap, cur, hv, hg, by rw [hb.block g (Array.getElem?_eq_some_iff.1 hh).1]; exact hh, r⟩

theorem own_form {w : World} {base : Nat} {e : TypeId} {v : Value} {n : Nat} {xs : List Value} (h : w.ownsRow base e 1 v n xs) : ∃ A c, v = .slice A n c := by
  rcases h.2 with ⟨rfl, rfl⟩ | ⟨g, cap, cur, rfl, _⟩
  · exact ⟨_, _, rfl⟩
  · exact ⟨_, _, rfl⟩

section
variable {P : Program} {w : World}

/-- append onto a row of the call's own, from whatever slice reads as 'news' -/
theorem run_app (t ty e : TypeId) (z : Value) (bytes : Nat) (ht : P.underlying t = some (.slice e)) (hinfo : (P.info? e).map (fun i => (i.zero, i.size, i.bytes)) = some (some z, 1, bytes)) (hz1 : z.cells.size = 1)
    (base : Nat) (A : Option Addr) (n c : Nat) (xs : List Value) (hown : w.ownsRow base e 1 (.slice A n c) n xs) (A2 : Option Addr) (m c2 : Nat) (news : List Value) (hm : news.length = m) (hsee : Seen w A2 news)
    (h1 : ∀ u ∈ news, u.oneCell' = true) (h63 : n + m ≤ maxLen) (hbytes : (n + m) * bytes ≤ 140737488355328) (hbase : base ≤ w.heap.size) :
    ∃ A' c' w', (Builtin.append_ #[t, t] ty #[.slice A n c, .slice A2 m c2]).run P w = .ok (.slice A' (n + m) c') w' ∧ w'.ownsRow base e 1 (.slice A' (n + m) c') (n + m) (xs ++ news) ∧ Below base w w' := by
  obtain ⟨i, hi, hz, hs, hb⟩ := info_parts hinfo
  cases A2 with
  | none =>
    have hn : news = [] := by
      rcases hsee with h | ⟨g, o, hA, _⟩
      · exact h
      · cases hA
    subst hn
    subst hm
    refine ⟨A, c, w, ?_, by simpa using hown, Below.refl _ _⟩
    rcases hown.2 with ⟨hv, hn⟩ | ⟨g, cap, cur, hv, _, _, hnc, _⟩
    · injection hv with h1 h2 h3
      subst h1; subst h2; subst h3
      simp [Builtin.append_, run_underlying ht, sizeOf, typeInfo, hi, Builtin.lenOf, Builtin.firstCells]
    · injection hv with h1 h2 h3
      subst h1; subst h3
      simp [Builtin.append_, run_underlying ht, sizeOf, typeInfo, hi, Builtin.lenOf, Builtin.firstCells, hnc, storeCells]
  | some ad =>
    have hcells : ∀ (j : Nat) u, news[j]? = some u → w.cell? (ad.add j) = some u := by
      intro j u hu
      rcases hsee with rfl | ⟨g, o, hA, hc⟩
      · simp at hu
      · injection hA with hA
        subst hA
        rw [Addr.add_lit]
        exact hc j u hu
    obtain ⟨v', w', hrun, hown', hg, _, hblk⟩ := run_append_own_at (P := P) w base t ty e i z 1 bytes ht hi hz hs hb hz1 (by omega) _ n xs hown ad m c2 news (by omega) hcells h1 h63 hbytes hbase
    obtain ⟨A', c', rfl⟩ := own_form hown'
    exact ⟨A', c', w', hrun, hown', (Below.refl _ _).grown hg hbase fun k hk => (hown.lt k hk).1⟩

theorem wpList_app {ops : Array Oper} {rest : List Oper} {o : Oper} {a : Act} {Q : Exit → Act → World → Prop} (hgd : o.guard = none) (s x : Operand) (t : TypeId)
    (ho : o.op = .call { callee := .builtin .append, args := #[s, x], argTypes := #[t, t] })
    (e : TypeId) (z : Value) (bytes : Nat) (ht : P.underlying t = some (.slice e)) (hinfo : (P.info? e).map (fun i => (i.zero, i.size, i.bytes)) = some (some z, 1, bytes)) (hz1 : z.cells.size = 1)
    (base : Nat) (A : Option Addr) (n c : Nat) (xs : List Value) (hs : a.eval s = .slice A n c) (hown : w.ownsRow base e 1 (.slice A n c) n xs)
    (A2 : Option Addr) (m c2 : Nat) (news : List Value) (hx : a.eval x = .slice A2 m c2) (hm : news.length = m) (hsee : Seen w A2 news) (h1 : ∀ u ∈ news, u.oneCell' = true)
    (h63 : n + m ≤ maxLen) (hbytes : (n + m) * bytes ≤ 140737488355328) (hbase : base ≤ w.heap.size)
    (h : ∀ A' c' w', w'.ownsRow base e 1 (.slice A' (n + m) c') (n + m) (xs ++ news) → Below base w w' → wpList P ops Q rest (a.put o.dst (.slice A' (n + m) c')) w') : wpList P ops Q (o :: rest) a w :=
  wpList_plain hgd fun K hK => by
    obtain ⟨A', c', w', hrun, h2, h3⟩ := run_app (P := P) t o.type e z bytes ht hinfo hz1 base A n c xs hown A2 m c2 news hm hsee h1 h63 hbytes hbase
    unfold Oper.wp execOp
    simp only [ho, resolve, invoke, builtin, Sem.run_bind, Sem.run_pure, Result.andThen_ok, List.map_toArray, List.map_cons, List.map_nil, hs, hx, hrun]
    exact hK _ _ (h A' c' w' h2 h3)
end

theorem bytes_one (bs : List UInt8) : ∀ u ∈ bytesV bs, u.oneCell' = true := by
  intro u hu
  simp only [bytesV, List.mem_map] at hu
  obtain ⟨x, _, rfl⟩ := hu
  rfl
theorem bytes_length (bs : List UInt8) : (bytesV bs).length = bs.length := by simp [bytesV]
theorem bytes_append (a b : List UInt8) : bytesV (a ++ b) = bytesV a ++ bytesV b := by simp [bytesV]
/-- a slice over a block that was just laid -/
theorem Seen.of_cells {w : World} {g : Nat} {t : TypeId} {cs : Array Value} {fr : Nat × Nat} (h : w.heap[g]? = some (.cells cs t fr)) : Seen w (some ⟨g, 0, none⟩) cs.toList :=
  .inr ⟨g, 0, rfl, fun j v hv => by rw [cell_of_row w g _ cs t fr h, Nat.zero_add]; simpa using hv⟩

/-! ### further words -/
theorem own_cap {w : World} {base n c : Nat} {A : Option Addr} {e : TypeId} {xs : List Value} (h : w.ownsRow base e 1 (.slice A n c) n xs) (hn : 0 < n) : n ≤ c ∧ c ≤ maxLen := by
  rcases h.2 with ⟨hv, _⟩ | ⟨g', cap, cur, hv, _, _, h1, h2, _⟩
  · injection hv with _ h2 _
    omega
  · injection hv with _ _ h3
    subst h3
    exact ⟨h1, h2⟩
theorem seen_take {w : World} {A : Option Addr} {bs : List UInt8} (n : Nat) (h : Seen w A (bytesV bs)) : Seen w A (bytesV (bs.take n)) := by
  have := h.take n
  rwa [bytesV, ← List.map_take] at this
theorem seen_drop {w : World} {A : Option Addr} {bs : List UInt8} {K c : Nat} (h : Seen w A (bytesV bs)) (hc : bs.length ≤ c) : Seen w (if c = K then A else A.map (·.add K)) (bytesV (bs.drop K)) := by
  have := h.drop (k := K) (cap := c) (by rw [bytes_length]; exact hc)
  rwa [bytesV, ← List.map_drop] at this
theorem seen_drop_n {w : World} {A : Option Addr} {bs : List UInt8} {K c : Nat} (hk : ¬ c = K) (h : Seen w A (bytesV bs)) (hc : bs.length ≤ c) : Seen w (A.map (·.add K)) (bytesV (bs.drop K)) := by
  have := seen_drop (K := K) h hc
  rwa [if_neg hk] at this
theorem seen_drop_c {w : World} {A : Option Addr} {bs : List UInt8} {c : Nat} (h : Seen w A (bytesV bs)) (hc : bs.length ≤ c) : Seen w A (bytesV (bs.drop c)) := by
  have := seen_drop (K := c) h hc
  rwa [if_pos rfl] at this
theorem below_drewN {B : Nat} {a w : World} (h : Below B a w) (n : Nat) : Below B a (w.drewN n) := ⟨h.os, h.tape, h.output, h.size, h.block⟩
theorem two_cells (w : World) (u v : Value) (t : TypeId) : (w.alloc (.cells #[u, v] t)).drew.cell? ⟨w.heap.size, 0, none⟩ = some u ∧ (w.alloc (.cells #[u, v] t)).drew.cell? ⟨w.heap.size, 1, none⟩ = some v :=
  ⟨cell_of_row _ _ 0 _ _ (0, 0) (heap_alloc_new w _), cell_of_row _ _ 1 _ _ (0, 0) (heap_alloc_new w _)⟩
theorem new_one (W : World) (v : Value) (t : TypeId) {m : Nat} (h : W.heap.size = m) : (W.alloc (.cells #[v] t)).cell? ⟨m, 0, none⟩ = some v := by
  subst h
  exact cell_of_row _ _ 0 _ _ (0, 0) (heap_alloc_new W _)
theorem new_two (W : World) (u v : Value) (t : TypeId) : (W.alloc (.cells #[u, v] t)).cell? ⟨W.heap.size, 0, none⟩ = some u ∧ (W.alloc (.cells #[u, v] t)).cell? ⟨W.heap.size, 1, none⟩ = some v :=
  ⟨cell_of_row _ _ 0 _ _ (0, 0) (heap_alloc_new W _), cell_of_row _ _ 1 _ _ (0, 0) (heap_alloc_new W _)⟩
end Go.Proofs.YtmdmpliiiecmlaaGreat
end

section
namespace Go.Proofs.YtmdmpliiiecmlaaGreat
open Go.ChangeShapes Go.WideShapes Go.ChangeAt Go.RowKit
set_option linter.unusedVariables false

/-- of the blocks that were there only those of p may have turned -/
structure Turned (p : Nat → Prop) (w w' : World) : Prop where
  os : w'.os = w.os
  tape : w'.tape = w.tape
  output : w'.output = w.output
  size : w.heap.size ≤ w'.heap.size
  block : ∀ k, k < w.heap.size → ¬ p k → w'.heap[k]? = w.heap[k]?

theorem Turned.refl (p : Nat → Prop) (w : World) : Turned p w w := ⟨rfl, rfl, rfl, Nat.le_refl _, fun _ _ _ => rfl⟩
theorem Turned.trans {p q r : Nat → Prop} {a b c : World} (h : Turned p a b) (k : Turned q b c) (hp : ∀ k, p k → r k) (hq : ∀ k, k < a.heap.size → q k → r k) : Turned r a c :=
  ⟨k.os.trans h.os, k.tape.trans h.tape, k.output.trans h.output, Nat.le_trans h.size k.size, fun i hi hn => (k.block i (Nat.lt_of_lt_of_le hi h.size) fun e => hn (hq i hi e)).trans (h.block i hi fun e => hn (hp i e))⟩
theorem Turned.mono {p q : Nat → Prop} {a b : World} (h : Turned p a b) (hp : ∀ k, k < a.heap.size → p k → q k) : Turned q a b := ⟨h.os, h.tape, h.output, h.size, fun i hi hn => h.block i hi fun e => hn (hp i hi e)⟩
theorem Turned.of_below {p : Nat → Prop} {w w' : World} (h : Below w.heap.size w w') : Turned p w w' := ⟨h.os, h.tape, h.output, h.size, fun k hk _ => h.block k hk⟩
theorem Turned.below {p : Nat → Prop} {B : Nat} {w w' : World} (h : Turned p w w') (hp : ∀ k, p k → B ≤ k) (hB : B ≤ w.heap.size) : Below B w w' :=
  ⟨h.os, h.tape, h.output, h.size, fun k hk => h.block k (Nat.lt_of_lt_of_le hk hB) fun e => absurd (hp k e) (by omega)⟩
theorem Turned.alloc {p : Nat → Prop} {a w : World} (h : Turned p a w) (o : Obj) : Turned p a (w.alloc o) := h.trans (.of_below ((Below.refl _ _).alloc (Nat.le_refl _) o)) (fun _ e => e) (fun _ _ e => e)
theorem Turned.setCell {p : Nat → Prop} {a w : World} (h : Turned p a w) {b : Addr} (hb : b.block < a.heap.size → p b.block) (u : Value) : Turned p a (w.setCell b u) :=
  ⟨h.os, h.tape, h.output, by simpa [World.setCell] using h.size, fun k hk hn => by
    rw [Below.heap_setCell _ _ _ _ (fun e => hn (by subst e; exact hb hk))]
    exact h.block k hk hn⟩
theorem Turned.of_grown {p : Nat → Prop} {w w' : World} {row : Option Nat} (h : w.grownBy w' row) (hp : ∀ k, row = some k → p k) : Turned p w w' :=
  ⟨h.os, h.tape, h.output, h.size, fun k hk hn => h.block k hk fun e => hn (hp k e.symm)⟩
theorem Turned.heap {p : Nat → Prop} {w w' : World} (h : Turned p w w') {k : Nat} {o : Obj} (hk : w.heap[k]? = some o) (hn : ¬ p k) : w'.heap[k]? = some o := by
  rw [h.block k (Array.getElem?_eq_some_iff.1 hk).1 hn]
  exact hk
theorem Turned.seen {p : Nat → Prop} {w w' : World} {A : Option Addr} {xs : List Value} (h : Turned p w w') (hs : Seen w A xs) (hn : ∀ g o, A = some ⟨g, o, none⟩ → ¬ p g) : Seen w' A xs := by
  rcases hs with rfl | ⟨g, o, hA, hc⟩
  · exact .inl rfl
  · refine .inr ⟨g, o, hA, fun j v hv => ?_⟩
    have h1 := hc j v hv
    rw [← h1]
    exact World.cell?_of_block (w := w) (h.block g (block_lt_of_cell h1) (hn g o hA))
theorem Turned.own {p : Nat → Prop} {w w' : World} {base : Nat} {e : TypeId} {v : Value} {n : Nat} {xs : List Value} (h : Turned p w w') (ho : w.ownsRow base e 1 v n xs) (hn : ∀ k, v.ownBlock = some k → ¬ p k) : w'.ownsRow base e 1 v n xs := by
  refine ⟨ho.1, ?_⟩
  rcases ho.2 with h2 | ⟨g, cap, cur, rfl, hg, hh, r⟩
  · exact .inl h2
  · exact .inr ⟨g, cap, cur, rfl, hg, h.heap hh (hn g rfl), r⟩
theorem Turned.cell {p : Nat → Prop} {w w' : World} (h : Turned p w w') {a : Addr} {v : Value} (hc : w.cell? a = some v) (hn : ¬ p a.block) : w'.cell? a = some v := by
  rw [← hc]; exact World.cell?_of_block (w := w) (h.block a.block (block_lt_of_cell hc) hn)

/-- a block of cells, read and written -/
theorem row_cell {w : World} {g : Nat} {cs : Array Value} {t : TypeId} (h : w.heap[g]? = some (.cells cs t (0, 0))) (j : Nat) : w.cell? ⟨g, j, none⟩ = cs[j]? := cell_of_row w g j cs t (0, 0) h
theorem row_frozen {w : World} {g : Nat} {cs : Array Value} {t : TypeId} (h : w.heap[g]? = some (.cells cs t (0, 0))) (j : Nat) : w.frozen? ⟨g, j, none⟩ = false := by
  simp [World.frozen?, h]
theorem row_set {w : World} {g : Nat} {cs : Array Value} {t : TypeId} (h : w.heap[g]? = some (.cells cs t (0, 0))) (j : Nat) (u : Value) : (w.setCell ⟨g, j, none⟩ u).heap[g]? = some (.cells (cs.setIfInBounds j u) t (0, 0)) := by
  simp [World.setCell, Array.getElem?_modify, h]

section
variable {P : Program} {w : World}
/-- append, and what it may have turned -/
theorem run_app2 (t ty e : TypeId) (z : Value) (bytes : Nat) (ht : P.underlying t = some (.slice e)) (hinfo : (P.info? e).map (fun i => (i.zero, i.size, i.bytes)) = some (some z, 1, bytes)) (hz1 : z.cells.size = 1)
    (base : Nat) (A : Option Addr) (n c : Nat) (xs : List Value) (hown : w.ownsRow base e 1 (.slice A n c) n xs) (A2 : Option Addr) (m c2 : Nat) (news : List Value) (hm : news.length = m) (hsee : Seen w A2 news)
    (h1 : ∀ u ∈ news, u.oneCell' = true) (h63 : n + m ≤ maxLen) (hbytes : (n + m) * bytes ≤ 140737488355328) (hbase : base ≤ w.heap.size) :
    ∃ A' c' w', (Builtin.append_ #[t, t] ty #[.slice A n c, .slice A2 m c2]).run P w = .ok (.slice A' (n + m) c') w' ∧ w'.ownsRow base e 1 (.slice A' (n + m) c') (n + m) (xs ++ news) ∧ w.grownBy w' (Value.slice A n c).ownBlock ∧
      (∀ k, (Value.slice A' (n + m) c').ownBlock = some k → (Value.slice A n c).ownBlock = some k ∨ k = w.heap.size) := by
  obtain ⟨i, hi, hz, hs, hb⟩ := info_parts hinfo
  cases A2 with
  | none =>
    have hn : news = [] := by
      rcases hsee with h | ⟨g, o, hA, _⟩
      · exact h
      · cases hA
    subst hn
    subst hm
    refine ⟨A, c, w, ?_, by simpa using hown, ⟨rfl, rfl, rfl, Nat.le_refl _, fun _ _ _ => rfl⟩, fun k hk => .inl hk⟩
    rcases hown.2 with ⟨hv, hn⟩ | ⟨g, cap, cur, hv, _, _, hnc, _⟩
    · injection hv with h1 h2 h3
      subst h1; subst h2; subst h3
      simp [Builtin.append_, run_underlying ht, sizeOf, typeInfo, hi, Builtin.lenOf, Builtin.firstCells]
    · injection hv with h1 h2 h3
      subst h1; subst h3
      simp [Builtin.append_, run_underlying ht, sizeOf, typeInfo, hi, Builtin.lenOf, Builtin.firstCells, hnc, storeCells]
  | some ad =>
    have hcells : ∀ (j : Nat) u, news[j]? = some u → w.cell? (ad.add j) = some u := by
      intro j u hu
      rcases hsee with rfl | ⟨g, o, hA, hc⟩
      · simp at hu
      · injection hA with hA
        subst hA
        rw [Addr.add_lit]
        exact hc j u hu
    obtain ⟨v', w', hrun, hown', hg, _, hblk⟩ := run_append_own_at (P := P) w base t ty e i z 1 bytes ht hi hz hs hb hz1 (by omega) _ n xs hown ad m c2 news (by omega) hcells h1 h63 hbytes hbase
    obtain ⟨A', c', rfl⟩ := own_form hown'
    refine ⟨A', c', w', hrun, hown', hg, fun k hk => ?_⟩
    rcases hblk with h | h
    · exact .inl (by rw [← h]; exact hk)
    · rw [h] at hk
      injection hk with hk
      exact .inr hk.symm

theorem wpList_app2 {ops : Array Oper} {rest : List Oper} {o : Oper} {a : Act} {Q : Exit → Act → World → Prop} (hgd : o.guard = none) (s x : Operand) (t : TypeId)
    (ho : o.op = .call { callee := .builtin .append, args := #[s, x], argTypes := #[t, t] })
    (e : TypeId) (z : Value) (bytes : Nat) (ht : P.underlying t = some (.slice e)) (hinfo : (P.info? e).map (fun i => (i.zero, i.size, i.bytes)) = some (some z, 1, bytes)) (hz1 : z.cells.size = 1)
    (base : Nat) (A : Option Addr) (n c : Nat) (xs : List Value) (hs : a.eval s = .slice A n c) (hown : w.ownsRow base e 1 (.slice A n c) n xs)
    (A2 : Option Addr) (m c2 : Nat) (news : List Value) (hx : a.eval x = .slice A2 m c2) (hm : news.length = m) (hsee : Seen w A2 news) (h1 : ∀ u ∈ news, u.oneCell' = true)
    (h63 : n + m ≤ maxLen) (hbytes : (n + m) * bytes ≤ 140737488355328) (hbase : base ≤ w.heap.size)
    (h : ∀ A' c' w', w'.ownsRow base e 1 (.slice A' (n + m) c') (n + m) (xs ++ news) → w.grownBy w' (Value.slice A n c).ownBlock → (∀ k, (Value.slice A' (n + m) c').ownBlock = some k → (Value.slice A n c).ownBlock = some k ∨ k = w.heap.size) →
      wpList P ops Q rest (a.put o.dst (.slice A' (n + m) c')) w') : wpList P ops Q (o :: rest) a w :=
  wpList_plain hgd fun K hK => by
    obtain ⟨A', c', w', hrun, h2, h3, h4⟩ := run_app2 (P := P) t o.type e z bytes ht hinfo hz1 base A n c xs hown A2 m c2 news hm hsee h1 h63 hbytes hbase
    unfold Oper.wp execOp
    simp only [ho, resolve, invoke, builtin, Sem.run_bind, Sem.run_pure, Result.andThen_ok, List.map_toArray, List.map_cons, List.map_nil, hs, hx, hrun]
    exact hK _ _ (h A' c' w' h2 h3 h4)
end
end Go.Proofs.YtmdmpliiiecmlaaGreat
end

section
namespace Go.Proofs.YtmdmpliiiecmlaaGreat
open Go.ChangeShapes Go.WideShapes Go.ChangeAt Go.RowKit Go.Maps
set_option linter.unusedVariables false

def insK (k : Int) : List Int → List Int
  | [] => [k]
  | y :: r => if k < y then k :: y :: r else y :: insK k r
def outK (ks : List Int) (k : Int) : List Int := ks.filter fun j => j != k
def putK (ks : List Int) (k : Int) : List Int := insK k (outK ks k)
theorem mem_insK {k j : Int} : ∀ {ks : List Int}, j ∈ insK k ks ↔ j = k ∨ j ∈ ks
  | [] => by simp [insK]
  | y :: r => by
    unfold insK
    split
    · simp
    · simp only [List.mem_cons, mem_insK (ks := r)]
      constructor
      · rintro (h | h | h)
        · exact .inr (.inl h)
        · exact .inl h
        · exact .inr (.inr h)
      · rintro (h | h | h)
        · exact .inr (.inl h)
        · exact .inl h
        · exact .inr (.inr h)
theorem mem_outK {k j : Int} {ks : List Int} : j ∈ outK ks k ↔ j ∈ ks ∧ j ≠ k := by simp [outK]
theorem mem_putK {k j : Int} {ks : List Int} : j ∈ putK ks k ↔ j = k ∨ j ∈ ks := by
  unfold putK
  rw [mem_insK, mem_outK]
  by_cases e : j = k <;> simp [e]
theorem insK_length (k : Int) : ∀ ks : List Int, (insK k ks).length = ks.length + 1
  | [] => rfl
  | y :: r => by
    unfold insK
    split
    · rfl
    · simp [insK_length k r]
/-- rising -/
theorem keyed : Keyed Tryz.prog 3 := int_keyed Tryz.underlying3
theorem zero_int (w : World) : (zeroValue 3).run Tryz.prog w = .ok (.int .i64 0) w := by kernel_rfl
theorem key_of {k : Int} (h1 : -9223372036854775808 ≤ k) (h2 : k ≤ 9223372036854775807) : keyOf Tryz.prog 3 (.int .i64 k) = some (.int .i64 k) :=
  keyOf_int_mk Tryz.underlying3 (WalkArith.wf_i64 (by omega))
def heldR (v : Value) : Option (DataW Value × List MemPlace) := some (.held v, [])
theorem map_turned {p : Nat → Prop} {w w' : World} {m n : Nat} {D : DataW Value} (h : w.ownsMap Tryz.prog 3 heldR m n D) (ht : Turned p w w') (hp : ¬ p m) : w'.ownsMap Tryz.prog 3 heldR m n D := by
  obtain ⟨es, clock, hb, F, hs, hD⟩ := h
  exact ⟨es, clock, ht.heap hb hp, F, hs, hD⟩
theorem map_lt {w : World} {m n : Nat} {D : DataW Value} (h : w.ownsMap Tryz.prog 3 heldR m n D) : ∃ es clock, w.heap[m]? = some (.map es clock) := by
  obtain ⟨es, clock, hb, _⟩ := h
  exact ⟨es, clock, hb⟩
theorem map_size {w : World} {m n : Nat} {D : DataW Value} (h : w.ownsMap Tryz.prog 3 heldR m n D) : w.ownsMap Tryz.prog 3 heldR m (Maps.size D) D := by
  obtain ⟨es, clock, hb, F, hs, rfl⟩ := h
  exact ⟨es, clock, hb, F, by simp [Maps.size, length_sorted], rfl⟩
theorem turned_of_map {w w' : World} {b : Nat} (h : w.mapTurned w' b) : Turned (fun k => k = b) w w' := Turned.of_grown h.grown (p := fun k => k = b) fun k e => by injection e with e; exact e.symm
def updV (F : Int → Value) (k : Int) (v : Value) (j : Int) : Value := if j = k then v else F j
theorem updV_same {F : Int → Value} {k : Int} {v : Value} : updV F k v k = v := if_pos rfl
theorem updV_other {F : Int → Value} {k j : Int} {v : Value} (h : j ≠ k) : updV F k v j = F j := if_neg h
def encV (F : Int → Value) (k : Int) : Lit × DataW Value := (.int .i64 k, .held (F k))
def valsD (ks : List Int) (F : Int → Value) : DataW Value := .map (ks.map (encV F))
theorem encV_filter (x : List Int) (F : Int → Value) (k : Int) : (x.map (encV F)).filter (fun p => !p.1.sameKey (.int .i64 k)) = (outK x k).map (encV F) := by
  rw [List.filter_map]
  congr 1
  apply List.filter_congr
  intro p _
  simp [encV, Lit.sameKey, Bool.not_eq_eq_eq_not]
  by_cases e : p = k <;> simp [e]
theorem insert_encV (F : Int → Value) (p : Int) : ∀ x : List Int, DataW.insert (encV F p) (x.map (encV F)) = (insK p x).map (encV F)
  | [] => rfl
  | y :: r => by
    simp only [List.map_cons, DataW.insert, insK]
    by_cases hlt : p < y
    · have e : (encV F p).1.before (encV F y).1 = true := by simp [encV, Lit.before, hlt]
      rw [if_pos e, if_pos hlt]; rfl
    · have e : ¬ (encV F p).1.before (encV F y).1 = true := by simp [encV, Lit.before, hlt]
      rw [if_neg e, if_neg hlt, insert_encV F p r]; rfl
theorem valsD_put (x : List Int) (F : Int → Value) (k : Int) (v : Value) : (valsD x F).put (.int .i64 k) (.held v) = valsD (putK x k) (updV F k v) := by
  unfold valsD DataW.put putK
  simp only
  rw [encV_filter]
  congr 1
  have e : (outK x k).map (encV F) = (outK x k).map (encV (updV F k v)) := by
    apply List.map_congr_left
    intro p hp
    simp only [encV, updV_other (mem_outK.1 hp).2]
  rw [e, ← insert_encV]
  congr 1
  simp only [encV, updV_same]
theorem valsD_has (x : List Int) (F : Int → Value) (k : Int) : has (valsD x F) (.int .i64 k) = decide (k ∈ x) := by
  unfold valsD
  rw [has_eq, List.any_map, Bool.eq_iff_iff]
  simp [encV, Lit.sameKey]
theorem valsD_size (x : List Int) (F : Int → Value) : Maps.size (valsD x F) = x.length := by simp [valsD, Maps.size]
theorem valsD_at {x : List Int} {F : Int → Value} {k : Int} {z : DataW Value} (hk : k ∈ x) : (valsD x F).atKey (.int .i64 k) z = .held (F k) := by
  unfold valsD DataW.atKey
  simp only
  have : ∃ q ∈ x, q = k ∧ (x.map (encV F)).find? (fun q => q.1.sameKey (.int .i64 k)) = some (encV F q) := by
    cases hf : (x.map (encV F)).find? (fun q => q.1.sameKey (.int .i64 k)) with
    | none =>
      have := List.find?_eq_none.1 hf (encV F k) (List.mem_map.2 ⟨k, hk, rfl⟩)
      simp [encV, Lit.sameKey] at this
    | some y =>
      have h1 := List.find?_some hf
      obtain ⟨q, hq, rfl⟩ := List.mem_map.1 (List.mem_of_find?_eq_some hf)
      refine ⟨q, hq, ?_, rfl⟩
      simpa [encV, Lit.sameKey] using h1
  obtain ⟨q, hq, rfl, e⟩ := this
  rw [e]
  rfl
theorem valsD_none {x : List Int} {F : Int → Value} {k : Int} {z : DataW Value} (hk : ¬ k ∈ x) : (valsD x F).atKey (.int .i64 k) z = z := by
  unfold valsD DataW.atKey
  simp only
  have : (x.map (encV F)).find? (fun q => q.1.sameKey (.int .i64 k)) = none := by
    rw [List.find?_eq_none]
    intro y hy
    obtain ⟨q, hq, rfl⟩ := List.mem_map.1 hy
    intro hs
    have e : q = k := by simpa [encV, Lit.sameKey] using hs
    exact hk (e ▸ hq)
  rw [this]
/-- a map at b that has the names ks -/
def ValsM (w : World) (b : Nat) (ks : List Int) (F : Int → Value) : Prop := w.ownsMap Tryz.prog 3 heldR b ks.length (valsD ks F)
theorem ValsM.turned {p : Nat → Prop} {w w' : World} {b : Nat} {ks : List Int} {F : Int → Value} (h : ValsM w b ks F) (ht : Turned p w w') (hp : ¬ p b) : ValsM w' b ks F := map_turned h ht hp
theorem ValsM.below {w w' : World} {b : Nat} {ks : List Int} {F : Int → Value} (h : ValsM w b ks F) (hb : Below w.heap.size w w') : ValsM w' b ks F := h.turned (p := fun _ => False) (.of_below hb) id
theorem ValsM.made (w : World) (F : Int → Value) : ValsM (w.alloc (.map #[] 0)) w.heap.size [] F := World.ownsMap_made w _ _ _
theorem ValsM.map {w : World} {b : Nat} {ks : List Int} {F : Int → Value} (h : ValsM w b ks F) : ∃ es c, w.heap[b]? = some (.map es c) := map_lt h
theorem ValsM.lt {w : World} {b : Nat} {ks : List Int} {F : Int → Value} (h : ValsM w b ks F) : b < w.heap.size := by
  obtain ⟨es, c, hc⟩ := h.map
  exact (Array.getElem?_eq_some_iff.1 hc).1
theorem put_run {T e : TypeId} (hT : Tryz.prog.underlying T = some (.map 3 e)) {w : World} {b : Nat} {ks : List Int} {F : Int → Value} {k : Int} (v : Value) (h : ValsM w b ks F) (h1 : -9223372036854775808 ≤ k) (h2 : k ≤ 9223372036854775807) (hl : ks.length ≤ 1000000) :
    ∃ w', (Instr.mapUpdate T (.map (some b)) (.int .i64 k) v).run Tryz.prog w = .ok () w' ∧ ValsM w' b (putK ks k) (updV F k v) ∧ Turned (fun k => k = b) w w' := by
  obtain ⟨w', hrun, hown, ht⟩ := World.ownsMap.store h keyed hT (by unfold maxLen; omega) (key_of h1 h2) (val := v) (d := .held v) (ps := []) rfl
  rw [valsD_put] at hown
  have hsz := map_size hown
  rw [valsD_size] at hsz
  exact ⟨w', hrun, hsz, turned_of_map ht⟩
set_option maxRecDepth 100000 in
theorem get_run {T e : TypeId} (hT : Tryz.prog.underlying T = some (.map 3 e)) {w : World} {b : Nat} {ks : List Int} {F : Int → Value} {k : Int} {z : Value} (hz : (zeroValue e).run Tryz.prog w = .ok z w) (h : ValsM w b ks F) (h1 : -9223372036854775808 ≤ k) (h2 : k ≤ 9223372036854775807) :
    (Instr.lookup T (.map (some b)) (.int .i64 k) false).run Tryz.prog w = .ok (if k ∈ ks then F k else z) w := by
  obtain ⟨v, ps, hrun, hv⟩ := World.ownsMap.lookup h keyed hT hz (zd := .held z) (zp := []) rfl (key_of h1 h2)
  simp only [heldR, Option.some.injEq, Prod.mk.injEq] at hv
  by_cases hk : k ∈ ks
  · rw [valsD_at hk] at hv
    injection hv.1 with e
    rw [hrun, e, if_pos hk]
  · rw [valsD_none hk] at hv
    injection hv.1 with e
    rw [hrun, e, if_neg hk]
set_option maxRecDepth 100000 in
theorem has_run {T e : TypeId} (hT : Tryz.prog.underlying T = some (.map 3 e)) {w : World} {b : Nat} {ks : List Int} {F : Int → Value} {k : Int} {z : Value} (hz : (zeroValue e).run Tryz.prog w = .ok z w) (h : ValsM w b ks F) (h1 : -9223372036854775808 ≤ k) (h2 : k ≤ 9223372036854775807) :
    (Instr.lookup T (.map (some b)) (.int .i64 k) true).run Tryz.prog w = .ok (.tuple #[if k ∈ ks then F k else z, .bool (decide (k ∈ ks))]) w := by
  obtain ⟨v, ps, hrun, hv⟩ := World.ownsMap.look_ok h keyed hT hz (zd := .held z) (zp := []) rfl (key_of h1 h2)
  rw [valsD_has] at hrun
  simp only [heldR, Option.some.injEq, Prod.mk.injEq] at hv
  by_cases hk : k ∈ ks
  · rw [valsD_at hk] at hv
    injection hv.1 with e
    rw [hrun, e, if_pos hk]
  · rw [valsD_none hk] at hv
    injection hv.1 with e
    rw [hrun, e, if_neg hk]
section
variable {w : World} {ops : Array Oper} {rest : List Oper} {o : Oper} {a : Act} {Q : Exit → Act → World → Prop}
/-- m[k] = v in a literal -/
theorem wpList_insV {T e : TypeId} (hT : Tryz.prog.underlying T = some (.map 3 e)) (hg : o.guard = none) (m x v : Operand) (hop : o.op = Op.insert T m x v) (b : Nat) (ks : List Int) (F : Int → Value) (k : Int) (val : Value) (hm : a.eval m = .map (some b)) (hx : a.eval x = .int .i64 k) (hv : a.eval v = val)
    (h : ValsM w b ks F) (h1 : -9223372036854775808 ≤ k) (h2 : k ≤ 9223372036854775807) (hl : ks.length ≤ 1000000)
    (hK : ∀ w', ValsM w' b (putK ks k) (updV F k val) → Turned (fun k => k = b) w w' → wpList Tryz.prog ops Q rest (a.put o.dst undef) w') : wpList Tryz.prog ops Q (o :: rest) a w := by
  refine wpList_plain hg fun K' hK' => ?_
  obtain ⟨w', hrun, hown', hturn⟩ := put_run hT val h h1 h2 hl
  unfold Oper.wp
  simp [execOp, hop, hm, hx, hv, hrun, Result.andThen]
  exact hK' _ _ (hK w' hown' hturn)
end
end Go.Proofs.YtmdmpliiiecmlaaGreat
end

section
namespace Go.Proofs.YtmdmpliiiecmlaaGreat
open Go.ChangeShapes Go.WideShapes Go.ChangeAt Go.RowKit
set_option linter.unusedVariables false

structure Fld where
  t : Bool
  n : Int
  A : Option Addr
  m : Nat
  c : Nat
  bs : List UInt8

/-- the record f at ⟨g, q⟩ -/
def FldAt (w : World) (g q : Nat) (f : Fld) : Prop :=
  w.cell? ⟨g, q, none⟩ = some (.bool f.t) ∧ w.cell? ⟨g, q + 1, none⟩ = some (.int .i64 f.n) ∧ w.cell? ⟨g, q + 2, none⟩ = some (.slice f.A f.m f.c) ∧ f.bs.length = f.m ∧ f.m ≤ f.c ∧ f.c ≤ maxLen ∧ Seen w f.A (bytesV f.bs) ∧ -9223372036854775808 ≤ f.n ∧ f.n ≤ 9223372036854775807
/-- the slice that begins at A reads as fs -/
def FldsAt (w : World) (A : Option Addr) (fs : List Fld) : Prop :=
  fs = [] ∨ ∃ g o, A = some ⟨g, o, none⟩ ∧ ∀ i f, fs[i]? = some f → FldAt w g (o + i * 3) f

theorem FldAt.below {w w' : World} {g q : Nat} {f : Fld} (h : FldAt w g q f) (hb : Below w.heap.size w w') : FldAt w' g q f := by
  obtain ⟨h1, h2, h3, h4, h5, h6, h7, h8, h9⟩ := h
  exact ⟨by rw [hb.cell (block_lt_of_cell h1)]; exact h1, by rw [hb.cell (block_lt_of_cell h2)]; exact h2, by rw [hb.cell (block_lt_of_cell h3)]; exact h3, h4, h5, h6, h7.below hb, h8, h9⟩
theorem FldsAt.below {w w' : World} {A : Option Addr} {fs : List Fld} (h : FldsAt w A fs) (hb : Below w.heap.size w w') : FldsAt w' A fs := by
  rcases h with h | ⟨g, o, hA, hc⟩
  · exact .inl h
  · exact .inr ⟨g, o, hA, fun i f hi => (hc i f hi).below hb⟩
theorem FldsAt.get {w : World} {A : Option Addr} {fs : List Fld} (h : FldsAt w A fs) {k : Nat} (hk : k < fs.length) : ∃ g o f, A = some ⟨g, o, none⟩ ∧ fs[k]? = some f ∧ fs.take (k + 1) = fs.take k ++ [f] ∧ FldAt w g (o + k * 3) f := by
  rcases h with rfl | ⟨g, o, hA, hc⟩
  · simp at hk
  · exact ⟨g, o, fs[k], hA, List.getElem?_eq_getElem hk, List.take_succ_eq_append_getElem hk, hc k _ (List.getElem?_eq_getElem hk)⟩

theorem list_of {α : Type} {n : Nat} {p : Nat → α → Prop} (h : ∀ i, i < n → ∃ x, p i x) : ∃ l : List α, l.length = n ∧ ∀ i x, l[i]? = some x → p i x := by
  induction n with
  | zero => exact ⟨[], rfl, fun i x e => by simp at e⟩
  | succ n ih =>
    obtain ⟨l, hl, hp⟩ := ih fun i hi => h i (by omega)
    obtain ⟨x, hx⟩ := h n (by omega)
    refine ⟨l ++ [x], by simp [hl], fun i y e => ?_⟩
    rw [List.getElem?_append] at e
    split at e
    · exact hp i y e
    · rename_i hi
      rw [List.getElem?_eq_some_iff] at e
      obtain ⟨h1, h2⟩ := e
      have : i - l.length = 0 := by simpa using h1
      have hin : i = n := by omega
      subst hin
      simp [this] at h2
      subst h2
      exact hx

section
variable {H : Type} {enc : TypeId × Value → H} {P : Program}
theorem bytes_of_trod {W : World} {fuel : Nat} {v : Value} {x : DataW H × List MemPlace} {tb te : TypeId} (ht : P.underlying tb = some (.slice te)) (he : P.underlying te = some (.int .u8)) (hc : P.cellsOf te = 1)
    (hf : DataW.trod enc P W 0 (fun _ => true) true fuel tb [v] = some x) :
    ∃ A n c, ∃ bs : List UInt8, v = .slice A n c ∧ bs.length = n ∧ n ≤ c ∧ c ≤ maxLen ∧ Seen W A (bytesV bs) := by
  rcases open_ints ht he hc hf with ⟨hcs, hx⟩ | ⟨a, len', cap', zs, hcs, _, hl, hm, hz, hx, hcell, hwz⟩
  · simp at hcs
    subst hcs
    exact ⟨none, 0, 0, [], rfl, rfl, Nat.le_refl _, Nat.zero_le _, .inl rfl⟩
  · simp at hcs
    subst hcs
    simp only [if_true] at hz
    refine ⟨some a, len', cap', (zs.take len').map fun z => UInt8.ofNat z.toNat, rfl, by simp; omega, hl, hm, ?_⟩
    by_cases h0 : len' = 0
    · subst h0
      exact .inl (by simp [bytesV])
    · obtain ⟨g, o, spot⟩ := a
      have hspot : spot = none := by simpa [Addr.add] using World.cell?_spot (hcell 0 (by omega))
      subst hspot
      refine .inr ⟨g, o, rfl, fun j v hv => ?_⟩
      simp only [bytesV, List.map_map, List.getElem?_map, Option.map_eq_some_iff] at hv
      obtain ⟨z, hzj, rfl⟩ := hv
      rw [List.getElem?_take] at hzj
      split at hzj
      · rename_i hj
        have h1 := hcell j (by omega)
        rw [Addr.add_lit] at h1
        rw [h1]
        have e : zs.getD j 0 = z := by rw [List.getD_eq_getElem?_getD, hzj]; rfl
        have hb := bounds_u8 (hwz z (List.mem_of_getElem? hzj))
        rw [e]
        simp only [Function.comp, byteV, UInt8.toNat_ofNat']
        congr 2
        omega
      · cases hzj
theorem open_fields {W : World} {base : Nat} {v : Value} {d : DataW H} {p : List MemPlace} {tl te tu : TypeId} {fs : Array Field} {f0 f1 f2 : Field} (hl : P.underlying tl = some (.slice te)) (he : P.underlying te = some (.struct fs)) (h0 : fs[0]? = some f0) (h1 : fs[1]? = some f1) (h2 : fs[2]? = some f2)
    (o0 : f0.offset = 0) (o1 : f1.offset = 1) (o2 : f2.offset = 2) (b : P.underlying f0.type = some .bool) (i1 : P.underlying f1.type = some (.int .i64)) (s2 : P.underlying f2.type = some (.slice tu)) (u2 : P.underlying tu = some (.int .u8)) (cu : P.cellsOf tu = 1)
    (c0 : P.cellsOf f0.type = 1) (c1 : P.cellsOf f1.type = 1) (c2 : P.cellsOf f2.type = 1) (ce : P.cellsOf te = 3) (hval : Value.okWide P W .any base tl v) (h : DataW.Trod enc P W 0 (fun _ => true) true tl v d p) :
    ∃ A n c, ∃ fs : List Fld, v = .slice A n c ∧ fs.length = n ∧ n ≤ c ∧ c ≤ maxLen ∧ FldsAt W A fs := by
  obtain ⟨a1, len, cap, rfl⟩ := okWide_slice hl hval
  obtain ⟨fuel, hf⟩ := h
  rcases Go.Deep.open_slice hl hf with ⟨hcs, hx⟩ | ⟨a, len', cap', m, n, D, Pl, hcs, _, hl1, hl2, hm, hx, hel⟩
  · simp [Value.cells] at hcs
    obtain ⟨rfl, rfl, rfl⟩ := hcs
    exact ⟨none, 0, 0, [], rfl, rfl, Nat.le_refl _, Nat.zero_le _, .inl rfl⟩
  · simp [Value.cells] at hcs
    obtain ⟨rfl, rfl, rfl⟩ := hcs
    simp only [if_true] at hm
    rw [ce] at hel
    by_cases hz : len = 0
    · subst hz
      exact ⟨some a, 0, cap, [], rfl, rfl, by omega, hl2, .inl rfl⟩
    have hspot : a.spot = none := by
      obtain ⟨cs', hc, _⟩ := hel 0 (by omega)
      obtain ⟨_, hcl, hat⟩ := World.cells?_some hc
      have h3 := hat 0 (by omega)
      rw [List.getElem?_eq_getElem (by omega)] at h3
      obtain ⟨g, o, sp⟩ := a
      simpa [Addr.add] using World.cell?_spot h3
    obtain ⟨g, o, sp⟩ := a
    simp only at hspot
    subst hspot
    obtain ⟨l, hll, hlp⟩ := list_of (n := len) (p := fun i f => FldAt W g (o + i * 3) f) (fun i hi => by
      obtain ⟨cs', hc, ht⟩ := hel i (by omega)
      obtain ⟨_, hcl, hat⟩ := World.cells?_some hc
      obtain ⟨xs, n', _, _, _, hxl, hg⟩ := DataW.trod_struct he ht
      have e0 := hg 0 f0 h0
      have e1 := hg 1 f1 h1
      have e2 := hg 2 f2 h2
      rw [o0, c0] at e0
      rw [o1, c1] at e1
      rw [o2, c2] at e2
      match cs', hcl with
      | [x0, x1, x2], _ =>
        simp only [List.drop_zero, List.take_succ_cons, List.take_zero, List.drop_succ_cons] at e0 e1 e2
        have hsz : ∀ j f, fs[j]? = some f → j < xs.length := fun j f hj => by rw [hxl]; exact (Array.getElem?_eq_some_iff.1 hj).1
        rw [List.getElem?_eq_getElem (hsz 0 _ h0)] at e0
        rw [List.getElem?_eq_getElem (hsz 1 _ h1)] at e1
        rw [List.getElem?_eq_getElem (hsz 2 _ h2)] at e2
        obtain ⟨bv, hb, _⟩ := DataW.trod_bool b e0
        obtain ⟨nv, hn, _, hw⟩ := DataW.trod_int i1 e1
        obtain ⟨A2, n2, c2', bs2, hs, g1, g2, g3, g4⟩ := bytes_of_trod s2 u2 cu e2
        simp only [List.cons.injEq, and_true] at hb hn
        subst hb; subst hn; subst hs
        have q0 := hat 0 (by omega)
        have q1 := hat 1 (by omega)
        have q2 := hat 2 (by omega)
        simp only [Addr.add_lit] at q0 q1 q2
        have hw2 := bounds_i64 hw
        exact ⟨⟨bv, nv, A2, n2, c2', bs2⟩, q0, q1, q2, g1, g2, g3, g4, hw2.1, hw2.2⟩)
    exact ⟨_, len, cap, l, rfl, hll, hl1, hl2, .inr ⟨g, o, rfl, hlp⟩⟩
end
end Go.Proofs.YtmdmpliiiecmlaaGreat
end

section
namespace Go.Proofs.YtmdmpliiiecmlaaGreat
open Go.ChangeShapes Go.WideShapes Go.ChangeAt Go.RowKit
set_option linter.unusedVariables false

section
variable {H : Type} {enc : TypeId × Value → H} {P : Program}

theorem trodAll_stays {W W' : World} {sp : Nat → Bool} (hl : laidOutB P = true) : ∀ {ts : List TypeId} {vs : List Value} {ds : List (DataW H)} {ps : List MemPlace},
    DataW.TrodAll enc P W 0 (fun _ => true) true ts vs ds ps → ts.all (fun t => P.readableRec t && decide (t < P.types.size)) = true → (∀ x ∈ ps, W.sameAt W' x) → (∀ x ∈ ps, sp x.block = true) →
    DataW.TrodAll enc P W' 0 sp true ts vs ds ps := by
  intro ts
  induction ts with
  | nil =>
    intro vs ds ps h _ _ _
    obtain ⟨rfl, rfl, rfl⟩ := trodAll_nil h
    exact trodAll_mk0
  | cons t ts ih =>
    intro vs ds ps h hr hs hp
    obtain ⟨v, vs', d, ds', p, q, rfl, rfl, rfl, h0, r0⟩ := trodAll_cons h
    simp only [List.all_cons, Bool.and_eq_true, decide_eq_true_eq] at hr
    exact trodAll_cons_mk (WideElems.Trod_stays hl hr.1.1 hr.1.2 h0 (fun x hx => hs x (List.mem_append_left _ hx)) (fun x hx => hp x (List.mem_append_left _ hx)))
      (ih r0 hr.2 (fun x hx => hs x (List.mem_append_right _ hx)) (fun x hx => hp x (List.mem_append_right _ hx)))

/-- the end of a row that says 'true, and the arguments as they were', when the call has written to nothing that was there -/
theorem law_post {f : Func} {s : ChangeSpec} {apart fresh handsOn again : Bool} {W W' : World} {args : Array Value} {ds gs : List (DataW H)} {before : List MemPlace} {tb : TypeId}
    (hW : DataW.Whole enc P f.params.toList s.vars apart W args.toList ds gs before) (hvars : s.vars = []) (hl : laidOutB P = true)
    (hr : f.params.toList.all (fun t => P.readableRec t && decide (t < P.types.size)) = true) (hres : f.resultTypes = #[tb]) (hbool : P.underlying tb = some .bool)
    (hs1 : (s.fn H (ds ++ gs)).results = [.lit (.bool true)]) (hs2 : (s.fn H (ds ++ gs)).args = ds) (hs3 : (s.fn H (ds ++ gs)).vars = []) (hb : Below W.heap.size W W') :
    s.post enc P f apart fresh handsOn again W args (.bool true) W' := by
  have hlt : ∀ x ∈ before, x.block < W.heap.size := fun x hx => by simpa using hW.lt x hx
  have hW' := hW
  obtain ⟨p, q, hA, hV, rfl, hfz, hnd⟩ := hW'
  rw [hvars] at hV
  obtain ⟨rfl, rfl⟩ := trodVars_none hV
  simp only [List.append_nil] at hW hlt hfz hnd hs1 hs2 hs3
  have hsame : ∀ x ∈ p, W.sameAt W' x := fun x hx => hb.same (hlt x hx)
  have hargs : ∀ sp : Nat → Bool, (∀ x ∈ p, sp x.block = true) → DataW.TrodAll enc P W' 0 sp true f.params.toList args.toList (s.fn H (ds ++ [])).args p := fun sp hsp => by
    rw [List.append_nil, hs2]
    exact trodAll_stays hl hA hr hsame hsp
  have hvr : ∀ sp : Nat → Bool, DataW.TrodVars enc P W' sp s.vars (s.fn H (ds ++ [])).vars [] := fun sp => by
    rw [List.append_nil, hs3, hvars]
    rfl
  have hre : ∀ (b : Nat) (sp : Nat → Bool) (hd : Bool), DataW.TrodAll enc P W' b sp hd f.resultTypes.toList ((Value.bool true).resultList f.resultTypes.size) (s.fn H (ds ++ [])).results [] := fun b sp hd => by
    rw [List.append_nil, hs1, hres]
    exact trodAll_mk1 (shut_bool hbool true)
  have hold : ∀ x ∈ p, (fun b => decide (b < W.heap.size)) x.block = true := fun x hx => by simpa using hlt x hx
  refine ⟨ds, [], p, [], p, [], hW, hre _ _ _, hargs _ hold, hvr _, World.keptBut_mono (fun x hx => ⟨hx, Or.inr (by simpa using hx)⟩) (hb.frame (· ∈ p)), fun _ => ?_⟩
  refine ⟨?_, _, _, ([] ++ p) ++ [], ⟨[] ++ p, [], trodAll_append (hargs _ (fun _ _ => rfl)) (hre _ _ _), hvr _, rfl, ?_, ?_⟩, ?_⟩
  · exact ok_one hres rfl (okWide_bool_mk hbool true)
  · intro b off hp
    have hin : MemPlace.cell b off ∈ p := by simpa using hp
    rw [hb.frozen (hlt _ hin)]
    exact hfz b off hin
  · intro ha
    simpa using hnd ha
  · intro x hx _
    simpa using hx

/-- an argument that is a slice of bytes -/
theorem open_bytes {W : World} {base : Nat} {v : Value} {d : DataW H} {p : List MemPlace} {tb te : TypeId} (ht : P.underlying tb = some (.slice te)) (he : P.underlying te = some (.int .u8)) (hc : P.cellsOf te = 1)
    (hval : Value.okWide P W .any base tb v) (h : DataW.Trod enc P W 0 (fun _ => true) true tb v d p) :
    ∃ A n c, ∃ bs : List UInt8, v = .slice A n c ∧ bs.length = n ∧ n ≤ c ∧ c ≤ maxLen ∧ Seen W A (bytesV bs) := by
  obtain ⟨a1, len, cap, rfl⟩ := okWide_slice ht hval
  obtain ⟨fuel, hf⟩ := h
  rcases open_ints ht he hc hf with ⟨hcs, hx⟩ | ⟨a, len', cap', zs, hcs, _, hl, hm, hz, hx, hcell, hwz⟩
  · simp [Value.cells] at hcs
    obtain ⟨rfl, rfl, rfl⟩ := hcs
    exact ⟨none, 0, 0, [], rfl, rfl, Nat.le_refl _, Nat.zero_le _, .inl rfl⟩
  · simp [Value.cells] at hcs
    obtain ⟨rfl, rfl, rfl⟩ := hcs
    simp only [if_true] at hz
    refine ⟨some a, len, cap, (zs.take len).map fun z => UInt8.ofNat z.toNat, rfl, by simp; omega, hl, hm, ?_⟩
    by_cases h0 : len = 0
    · subst h0
      exact .inl (by simp [bytesV])
    · obtain ⟨g, o, spot⟩ := a
      have hspot : spot = none := by simpa [Addr.add] using World.cell?_spot (hcell 0 (by omega))
      subst hspot
      refine .inr ⟨g, o, rfl, fun j v hv => ?_⟩
      simp only [bytesV, List.map_map, List.getElem?_map, Option.map_eq_some_iff] at hv
      obtain ⟨z, hzj, rfl⟩ := hv
      rw [List.getElem?_take] at hzj
      split at hzj
      · rename_i hj
        have h1 := hcell j (by omega)
        rw [Addr.add_lit] at h1
        rw [h1]
        have e : zs.getD j 0 = z := by rw [List.getD_eq_getElem?_getD, hzj]; rfl
        have hb := bounds_u8 (hwz z (List.mem_of_getElem? hzj))
        rw [e]
        simp only [Function.comp, byteV, UInt8.toNat_ofNat']
        congr 2
        omega
      · cases hzj
end
end Go.Proofs.YtmdmpliiiecmlaaGreat
end

section
namespace Go.Proofs.YtmdmpliiiecmlaaGreat
open Go.ChangeShapes Go.WideShapes Go.ChangeAt Go.RowKit
set_option linter.unusedVariables false

/-- a slice of numbers -/
def numsV (l : List Int) : List Value := l.map fun x => .int .i64 x
theorem numsV_length (l : List Int) : (numsV l).length = l.length := by simp [numsV]
theorem numsV_append (a b : List Int) : numsV (a ++ b) = numsV a ++ numsV b := by simp [numsV]
theorem numsV_one (l : List Int) : ∀ u ∈ numsV l, u.oneCell' = true := by
  intro u hu
  simp only [numsV, List.mem_map] at hu
  obtain ⟨x, _, rfl⟩ := hu
  rfl
theorem Seen.num {w : World} {A : Option Addr} {ns : List Int} (h : Seen w A (numsV ns)) {j : Nat} (hj : j < ns.length) :
    ∃ g o x, A = some ⟨g, o, none⟩ ∧ ns[j]? = some x ∧ w.cell? ⟨g, o + j, none⟩ = some (.int .i64 x) := by
  obtain ⟨g, o, hA, hc⟩ := h.at_ (j := j) (by simpa [numsV] using hj)
  exact ⟨g, o, ns[j], hA, List.getElem?_eq_getElem hj, by simpa [numsV] using hc⟩
def In64 (x : Int) : Prop := -9223372036854775808 ≤ x ∧ x ≤ 9223372036854775807

section
variable {H : Type} {enc : TypeId × Value → H} {P : Program}
theorem open_nums {W : World} {base : Nat} {v : Value} {d : DataW H} {p : List MemPlace} {tb te : TypeId} (ht : P.underlying tb = some (.slice te)) (he : P.underlying te = some (.int .i64)) (hc : P.cellsOf te = 1)
    (hval : Value.okWide P W .any base tb v) (h : DataW.Trod enc P W 0 (fun _ => true) true tb v d p) :
    ∃ A n c, ∃ xs : List Int, v = .slice A n c ∧ xs.length = n ∧ n ≤ c ∧ c ≤ maxLen ∧ Seen W A (numsV xs) ∧ ∀ x ∈ xs, In64 x := by
  obtain ⟨a1, len, cap, rfl⟩ := okWide_slice ht hval
  obtain ⟨fuel, hf⟩ := h
  rcases open_ints ht he hc hf with ⟨hcs, hx⟩ | ⟨a, len', cap', zs, hcs, _, hl, hm, hz, hx, hcell, hwz⟩
  · simp [Value.cells] at hcs
    obtain ⟨rfl, rfl, rfl⟩ := hcs
    exact ⟨none, 0, 0, [], rfl, rfl, Nat.le_refl _, Nat.zero_le _, .inl rfl, fun x h => by cases h⟩
  · simp [Value.cells] at hcs
    obtain ⟨rfl, rfl, rfl⟩ := hcs
    simp only [if_true] at hz
    refine ⟨some a, len, cap, zs.take len, rfl, by simp; omega, hl, hm, ?_, fun x hx' => ?_⟩
    · by_cases h0 : len = 0
      · subst h0
        exact .inl (by simp [numsV])
      · obtain ⟨g, o, spot⟩ := a
        have hspot : spot = none := by simpa [Addr.add] using World.cell?_spot (hcell 0 (by omega))
        subst hspot
        refine .inr ⟨g, o, rfl, fun j v hv => ?_⟩
        simp only [numsV, List.getElem?_map, Option.map_eq_some_iff] at hv
        obtain ⟨z, hzj, rfl⟩ := hv
        rw [List.getElem?_take] at hzj
        split at hzj
        · rename_i hj
          have h1 := hcell j (by omega)
          rw [Addr.add_lit] at h1
          rw [h1]
          have e : zs.getD j 0 = z := by rw [List.getD_eq_getElem?_getD, hzj]; rfl
          rw [e]
        · cases hzj
    · have hb := bounds_i64 (hwz x (List.mem_of_mem_take hx'))
      exact ⟨by omega, by omega⟩
end
end Go.Proofs.YtmdmpliiiecmlaaGreat
end

section
namespace Go.Proofs.YtmdmpliiiecmlaaGreat
open Go.ChangeShapes Go.WideShapes Go.ChangeAt Go.RowKit
set_option linter.unusedVariables false

def inI (a : Int) : Prop := -9223372036854775808 ≤ a ∧ a ≤ 9223372036854775807

/-- The nearest tag. -/
def holdF (a : Int) : Int := if a < 0 then 0 else if 2305843009213693952 < a then 2305843009213693952 else a
theorem holdF_bd (a : Int) : 0 ≤ holdF a ∧ holdF a ≤ 2305843009213693952 := by unfold holdF; omega

theorem in_of {a : Int} (h : (Lit.int .i64 a).wf = true) : inI a := by
  simp [Lit.wf, IntKind.min, IntKind.max, IntKind.bits, IntKind.signed] at h; unfold inI; omega

theorem int_eq {a b : Int} (h : a = b) : Ending.returned (.int .i64 a) = .returned (.int .i64 b) := by rw [h]
theorem bool_eq {a b : Bool} (h : a = b) : Ending.returned (.bool a) = .returned (.bool b) := by rw [h]

/-- The sum of two tags. -/
def addF (a b : Int) : Int := if 2305843009213693952 < holdF a + holdF b then 2305843009213693952 else holdF a + holdF b
/-- A tag, n times. -/
def timesF (a n : Int) : Int := if 2305843009213693952 < holdF a * holdF n then 2305843009213693952 else holdF a * holdF n

theorem over_iff (x y : Int) (hy : 1 ≤ y) : 2305843009213693952 / y < x ↔ 2305843009213693952 < x * y := Int.ediv_lt_iff_lt_mul (by omega)

def rated (a : Int) : Prop := 1 ≤ a ∧ a ≤ 1048576
theorem isRate_yes (a : Int) (w : World) (ha : rated a) :
    Calls Tryz.prog 136 #[.int .i64 a] w fun e w' => e = .returned (.bool true) ∧ w = w' := by
  obtain ⟨h1, h2⟩ := ha
  go_enter Tryz.func136, Tryz.ntmps136
  go_wp2
  go_ret
  exact ⟨rfl, rfl⟩
theorem isRate_no (a : Int) (w : World) (ha : ¬ rated a) :
    Calls Tryz.prog 136 #[.int .i64 a] w fun e w' => e = .returned (.bool false) ∧ w = w' := by
  by_cases h : 1 ≤ a
  · have h2 : ¬ a ≤ 1048576 := fun h' => ha ⟨h, h'⟩
    clear ha
    go_enter Tryz.func136, Tryz.ntmps136
    go_wp2
    go_ret
    exact ⟨rfl, rfl⟩
  · clear ha
    go_enter Tryz.func136, Tryz.ntmps136
    go_wp2
    go_ret
    exact ⟨rfl, rfl⟩

theorem divideUp_any (n d : Int) (w : World) (h1 : 1 ≤ n) (h2 : n ≤ 9223372036854775807) (h3 : 1 ≤ d) (h4 : d ≤ 9223372036854775807) :
    Calls Tryz.prog 135 #[.int .i64 n, .int .i64 d] w fun e w' => e = .returned (.int .i64 ((n - 1) / d + 1)) ∧ w = w' := by
  have q0 : 0 ≤ (n - 1) / d := Int.ediv_nonneg (by omega) (by omega)
  have q1 : (n - 1) / d ≤ n - 1 := Int.ediv_le_self _ (by omega)
  have hz : (d == 0) = false := by simp; omega
  go_enter Tryz.func135, Tryz.ntmps135
  go_wp2
  go_ret
  exact ⟨rfl, rfl⟩

def spaceF (a : Int) : Int := if 1 ≤ a ∧ a ≤ 1048576 then 65536000 / a else 0
def wideF (a : Int) : Int := if 1 ≤ a ∧ a ≤ 1048576 then 65535999 / a + 1 else 0
def shareF (a : Int) : Int := if 1 ≤ a then 1099511627775 / a + 1 else 0

theorem space_any (a : Int) (w : World) :
    Calls Tryz.prog 116 #[.int .i64 a] w fun e w' => e = .returned (.int .i64 (spaceF a)) ∧ w = w' := by
  by_cases h : rated a
  · have hs : spaceF a = 65536000 / a := if_pos h
    rw [hs]; clear hs
    have h' := h
    obtain ⟨h1, h2⟩ := h'
    have hz : (a == 0) = false := by simp; omega
    go_enter Tryz.func116, Tryz.ntmps116
    go_wp2_with (go_at_call 136; refine (isRate_yes _ _ h).mono ?_; rintro e w' ⟨rfl, rfl⟩)
    go_ret
    exact ⟨rfl, rfl⟩
  · have hs : spaceF a = 0 := if_neg h
    rw [hs]; clear hs
    go_enter Tryz.func116, Tryz.ntmps116
    go_wp2_with (go_at_call 136; refine (isRate_no _ _ h).mono ?_; rintro e w' ⟨rfl, rfl⟩)
    go_ret
    exact ⟨rfl, rfl⟩

theorem share_any (a : Int) (w : World) (ha : inI a) :
    Calls Tryz.prog 115 #[.int .i64 a] w fun e w' => e = .returned (.int .i64 (shareF a)) ∧ w = w' := by
  obtain ⟨i1, i2⟩ := ha
  by_cases h : 1 ≤ a
  · have hs : shareF a = 1099511627775 / a + 1 := if_pos h
    rw [hs]; clear hs
    go_enter Tryz.func115, Tryz.ntmps115
    go_wp2_with (go_at_call 135; refine (divideUp_any _ _ _ (by omega) (by omega) (by omega) (by omega)).mono ?_; rintro e w' ⟨rfl, rfl⟩)
    go_ret
    exact ⟨rfl, rfl⟩
  · have hs : shareF a = 0 := if_neg h
    rw [hs]; clear hs
    go_enter Tryz.func115, Tryz.ntmps115
    go_wp2
    go_ret
    exact ⟨rfl, rfl⟩

/-! ### The document's answer -/
theorem refSpace_any (a : Int) (w : World) :
    Calls Tryz.prog 109 #[.int .i64 a] w fun e w' => e = .returned (.int .i64 (spaceF a)) ∧ w = w' := by
  by_cases h : rated a
  · have hs : spaceF a = 65536000 / a := if_pos h
    rw [hs]; clear hs
    obtain ⟨h1, h2⟩ := h
    have hz : (a == 0) = false := by simp; omega
    go_enter Tryz.func109, Tryz.ntmps109
    go_wp2
    go_ret
    exact ⟨rfl, rfl⟩
  · have hs : spaceF a = 0 := if_neg h
    rw [hs]; clear hs
    have h' : a < 1 ∨ 1048576 < a := by unfold rated at h; omega
    rcases h' with h' | h'
    · go_enter Tryz.func109, Tryz.ntmps109
      go_wp2
      go_ret
      exact ⟨rfl, rfl⟩
    · have h3 : ¬ a < 1 := by omega
      go_enter Tryz.func109, Tryz.ntmps109
      go_wp2
      go_ret
      exact ⟨rfl, rfl⟩

/-- Rounded up: by the rest, or by one less. -/
theorem up_div (n d : Int) (hd : 1 ≤ d) : (n - 1) / d + 1 = if n / d * d < n then n / d + 1 else n / d := by
  have h1 := Int.mul_ediv_add_emod n d
  have h2 := Int.emod_nonneg n (show d ≠ 0 by omega)
  have h3 := Int.emod_lt_of_pos n (show 0 < d by omega)
  have hc : n / d * d = d * (n / d) := Int.mul_comm _ _
  split
  · have h4 : 1 ≤ n % d := by omega
    have h5 : (n - 1) / d = n / d := by
      have e : n - 1 = (n % d - 1) + d * (n / d) := by omega
      rw [e, Int.add_mul_ediv_left _ _ (by omega), Int.ediv_eq_zero_of_lt (by omega) (by omega)]; omega
    omega
  · have h4 : n % d = 0 := by omega
    have h5 : (n - 1) / d = n / d - 1 := by
      have e : n - 1 = (d - 1) + d * (n / d - 1) := by rw [Int.mul_sub]; omega
      rw [e, Int.add_mul_ediv_left _ _ (by omega), Int.ediv_eq_zero_of_lt (by omega) (by omega)]; omega
    omega

theorem refShare_any (a : Int) (w : World) (ha : inI a) :
    Calls Tryz.prog 108 #[.int .i64 a] w fun e w' => e = .returned (.int .i64 (shareF a)) ∧ w = w' := by
  obtain ⟨i1, i2⟩ := ha
  by_cases h : 1 ≤ a
  · have hs : shareF a = 1099511627775 / a + 1 := if_pos h
    have hz : (a == 0) = false := by simp; omega
    have q0 : 0 ≤ 1099511627776 / a := Int.ediv_nonneg (by omega) (by omega)
    have q1 : 1099511627776 / a ≤ 1099511627776 := Int.ediv_le_self _ (by omega)
    have q2 : 1099511627776 / a * a ≤ 1099511627776 := Int.ediv_mul_le _ (by omega)
    have q3 : 0 ≤ 1099511627776 / a * a := Int.mul_nonneg (by omega) (by omega)
    have hu := up_div 1099511627776 a h
    rw [hs, show (1099511627775 : Int) = 1099511627776 - 1 from rfl, hu]
    clear hs hu
    by_cases hl : 1099511627776 / a * a < 1099511627776
    · rw [if_pos hl]
      go_enter Tryz.func108, Tryz.ntmps108
      go_wp2
      go_ret
      exact ⟨rfl, rfl⟩
    · rw [if_neg hl]
      go_enter Tryz.func108, Tryz.ntmps108
      go_wp2
      go_ret
      exact ⟨rfl, rfl⟩
  · have hs : shareF a = 0 := if_neg h
    rw [hs]; clear hs
    go_enter Tryz.func108, Tryz.ntmps108
    go_wp2
    go_ret
    exact ⟨rfl, rfl⟩

end Go.Proofs.YtmdmpliiiecmlaaGreat
end

section
namespace Go.Proofs.YtmdmpliiiecmlaaGreat
open Go.ChangeShapes Go.WideShapes Go.ChangeAt Go.RowKit
set_option linter.unusedVariables false

structure Pol where
  re : Int
  we : Int
  li : Int
  bu : Int
  deriving DecidableEq
def rightP (p : Pol) : Bool := decide (0 ≤ p.re ∧ p.re ≤ 1048576) && decide (1 ≤ p.we ∧ p.we ≤ 1024) && decide (0 ≤ p.li ∧ p.li ≤ 1048576) && decide (0 ≤ p.bu ∧ p.bu ≤ 1024) && decide (p.li = 0 ∨ p.re ≤ p.li)
theorem rightP_iff (p : Pol) : rightP p = true ↔ (0 ≤ p.re ∧ p.re ≤ 1048576) ∧ (1 ≤ p.we ∧ p.we ≤ 1024) ∧ (0 ≤ p.li ∧ p.li ≤ 1048576) ∧ (0 ≤ p.bu ∧ p.bu ≤ 1024) ∧ (p.li = 0 ∨ p.re ≤ p.li) := by
  simp only [rightP, Bool.and_eq_true, decide_eq_true_eq, and_assoc]
def shP (p : Pol) : Int := shareF (spaceF p.re)
theorem shareF_bd (a : Int) : 0 ≤ shareF a ∧ shareF a ≤ 1099511627776 := by
  unfold shareF
  split
  · have q0 : 0 ≤ 1099511627775 / a := Int.ediv_nonneg (by omega) (by omega)
    have q1 : 1099511627775 / a ≤ 1099511627775 := Int.ediv_le_self _ (by omega)
    omega
  · omega
theorem shP_bd (p : Pol) : 0 ≤ shP p ∧ shP p ≤ 1099511627776 := shareF_bd _
theorem spaceF_in (a : Int) : inI (spaceF a) := by
  unfold spaceF inI
  split
  · have q0 : 0 ≤ 65536000 / a := Int.ediv_nonneg (by omega) (by omega)
    have q1 : 65536000 / a ≤ 65536000 := Int.ediv_le_self _ (by omega)
    omega
  · omega
def loadP : List Pol → Int
  | [] => 0
  | p :: l => shP p + loadP l
theorem loadP_append (a b : List Pol) : loadP (a ++ b) = loadP a + loadP b := by
  induction a with
  | nil => simp [loadP]
  | cons p a ih => simp only [List.cons_append, loadP, ih]; omega
theorem loadP_bd : ∀ l : List Pol, 0 ≤ loadP l ∧ loadP l ≤ (l.length : Int) * 1099511627776
  | [] => ⟨Int.le_refl _, Int.le_refl _⟩
  | p :: l => by
    have h := loadP_bd l
    have k := shP_bd p
    simp only [loadP, List.length_cons]
    omega
theorem loadP_more {l : List Pol} {k : Nat} {p : Pol} (h : l[k]? = some p) : loadP (l.take (k + 1)) = loadP (l.take k) + shP p := by
  obtain ⟨hk, rfl⟩ := List.getElem?_eq_some_iff.1 h
  rw [List.take_succ_eq_append_getElem hk, loadP_append]
  simp [loadP]
theorem loadP_split (l : List Pol) (k : Nat) : loadP (l.take k) + loadP (l.drop k) = loadP l := by rw [← loadP_append, List.take_append_drop]
theorem loadP_part_bd {l : List Pol} (h : l.length ≤ 4096) (k : Nat) : 0 ≤ loadP (l.take k) ∧ loadP (l.take k) ≤ 4503599627370496 := by
  have h1 := loadP_bd (l.take k)
  have h2 : (l.take k).length ≤ 4096 := by rw [List.length_take]; omega
  omega
def allP (l : List Pol) : Bool := l.all rightP
theorem allP_more {l : List Pol} {k : Nat} {p : Pol} (h : l[k]? = some p) (ht : allP (l.take k) = true) (hp : rightP p = true) : allP (l.take (k + 1)) = true := by
  obtain ⟨hk, rfl⟩ := List.getElem?_eq_some_iff.1 h
  rw [List.take_succ_eq_append_getElem hk]
  unfold allP at ht ⊢
  rw [List.all_append, ht]
  simp [hp]
theorem allP_no {l : List Pol} {k : Nat} {p : Pol} (h : l[k]? = some p) (hp : rightP p = false) : allP l = false := by
  unfold allP
  rw [List.all_eq_false]
  exact ⟨p, List.mem_of_getElem? h, by simp [hp]⟩
def admitsP (picks : Int) (l : List Pol) : Bool := decide (1 ≤ picks ∧ picks ≤ 64) && decide (l.length ≤ 4096) && allP l && decide (loadP l ≤ picks * 16777216)

/-! ### In memory -/
def InP (p : Pol) : Prop := In64 p.re ∧ In64 p.we ∧ In64 p.li ∧ In64 p.bu
/-- the policy p at ⟨g, q⟩ -/
def PolAt (w : World) (g q : Nat) (p : Pol) : Prop :=
  w.cell? ⟨g, q, none⟩ = some (.int .i64 p.re) ∧ w.cell? ⟨g, q + 1, none⟩ = some (.int .i64 p.we) ∧ w.cell? ⟨g, q + 2, none⟩ = some (.int .i64 p.li) ∧ w.cell? ⟨g, q + 3, none⟩ = some (.int .i64 p.bu) ∧ InP p
/-- the slice that begins at A reads as l -/
def PolsAt (w : World) (A : Option Addr) (l : List Pol) : Prop :=
  l = [] ∨ ∃ g o, A = some ⟨g, o, none⟩ ∧ ∀ i p, l[i]? = some p → PolAt w g (o + i * 4) p
theorem PolAt.below {w w' : World} {g q : Nat} {p : Pol} (h : PolAt w g q p) (hb : Below w.heap.size w w') : PolAt w' g q p := by
  obtain ⟨h1, h2, h3, h4, h5⟩ := h
  exact ⟨by rw [hb.cell (block_lt_of_cell h1)]; exact h1, by rw [hb.cell (block_lt_of_cell h2)]; exact h2, by rw [hb.cell (block_lt_of_cell h3)]; exact h3, by rw [hb.cell (block_lt_of_cell h4)]; exact h4, h5⟩
theorem PolsAt.below {w w' : World} {A : Option Addr} {l : List Pol} (h : PolsAt w A l) (hb : Below w.heap.size w w') : PolsAt w' A l := by
  rcases h with rfl | ⟨g, o, hA, hc⟩
  · exact .inl rfl
  · exact .inr ⟨g, o, hA, fun i p hp => (hc i p hp).below hb⟩
theorem PolsAt.nil (w : World) (A : Option Addr) : PolsAt w A [] := .inl rfl
theorem PolsAt.get {w : World} {A : Option Addr} {l : List Pol} (h : PolsAt w A l) {k : Nat} (hk : k < l.length) : ∃ g o p, A = some ⟨g, o, none⟩ ∧ l[k]? = some p ∧ PolAt w g (o + k * 4) p := by
  rcases h with rfl | ⟨g, o, hA, hc⟩
  · simp at hk
  · exact ⟨g, o, l[k], hA, List.getElem?_eq_getElem hk, hc k _ (List.getElem?_eq_getElem hk)⟩
theorem PolsAt.take {w : World} {A : Option Addr} {l : List Pol} (h : PolsAt w A l) (k : Nat) : PolsAt w A (l.take k) := by
  rcases h with rfl | ⟨g, o, hA, hc⟩
  · exact .inl (by simp)
  · refine .inr ⟨g, o, hA, fun i p hp => hc i p ?_⟩
    rw [List.getElem?_take] at hp
    split at hp
    · exact hp
    · cases hp
/-- a cut from k on: the model lets the address stand where k is the capacity -/
theorem PolsAt.drop {w : World} {A : Option Addr} {l : List Pol} (h : PolsAt w A l) {k cap : Nat} (hc : l.length ≤ cap) :
    PolsAt w (if cap = k then A else A.map (·.add (k * 4))) (l.drop k) := by
  by_cases hk : l.length ≤ k
  · rw [List.drop_eq_nil_of_le hk]; exact .inl rfl
  · rw [if_neg (by omega)]
    rcases h with rfl | ⟨g, o, rfl, hc⟩
    · simp at hk
    · refine .inr ⟨g, o + k * 4, by simp [Addr.add_lit], fun i p hp => ?_⟩
      rw [List.getElem?_drop] at hp
      have := hc (k + i) p hp
      rwa [show o + k * 4 + i * 4 = o + (k + i) * 4 by omega]
/-- a block that holds one policy -/
theorem pol_of_row {w : World} {g : Nat} {p : Pol} {t : TypeId} (h : w.heap[g]? = some (.cells #[.int .i64 p.re, .int .i64 p.we, .int .i64 p.li, .int .i64 p.bu] t (0, 0))) (hp : InP p) : PolAt w g 0 p :=
  ⟨row_cell h 0, row_cell h 1, row_cell h 2, row_cell h 3, hp⟩
theorem pols_one {w : World} {g : Nat} {p : Pol} {t : TypeId} (h : w.heap[g]? = some (.cells #[.int .i64 p.re, .int .i64 p.we, .int .i64 p.li, .int .i64 p.bu] t (0, 0))) (hp : InP p) : PolsAt w (some ⟨g, 0, none⟩) [p] :=
  .inr ⟨g, 0, rfl, fun i q hq => by
    match i, hq with
    | 0, hq =>
      simp at hq
      subst hq
      exact pol_of_row h hp⟩
theorem pols_two {w : World} {g : Nat} {p q : Pol} {t : TypeId} (h : w.heap[g]? = some (.cells #[.int .i64 p.re, .int .i64 p.we, .int .i64 p.li, .int .i64 p.bu, .int .i64 q.re, .int .i64 q.we, .int .i64 q.li, .int .i64 q.bu] t (0, 0))) (hp : InP p) (hq : InP q) : PolsAt w (some ⟨g, 0, none⟩) [p, q] :=
  .inr ⟨g, 0, rfl, fun i r hr => by
    match i, hr with
    | 0, hr =>
      simp at hr
      subst hr
      exact ⟨row_cell h 0, row_cell h 1, row_cell h 2, row_cell h 3, hp⟩
    | 1, hr =>
      simp at hr
      subst hr
      exact ⟨row_cell h 4, row_cell h 5, row_cell h 6, row_cell h 7, hq⟩⟩

/-! ### A policy's load, under a name -/
theorem pol_info : (Tryz.prog.info? 36).map (·.size) = some 4 := by kernel_rfl
/-- so that a walk takes it whole, behind a guard too ('attribute [local go_sem ↓] ldPol_eq') -/
def ldPol (p : Value) : Sem Value := Instr.loadAt 36 p
theorem ldPol_eq (p : Value) : Instr.loadAt 36 p = ldPol p := rfl
theorem ldPol_run {w : World} {g o : Nat} {p : Pol} (h : PolAt w g o p) :
    (ldPol (.pointer (some ⟨g, o, none⟩))).run Tryz.prog w = .ok (.agg #[.int .i64 p.re, .int .i64 p.we, .int .i64 p.li, .int .i64 p.bu]) w := by
  obtain ⟨h0, h1, h2, h3, _⟩ := h
  have hr : w.rangeAt g o [.int .i64 p.re, .int .i64 p.we, .int .i64 p.li, .int .i64 p.bu] := fun j v hv => by
    match j, hv with
    | 0, hv => simp at hv; subst hv; exact h0
    | 1, hv => simp at hv; subst hv; exact h1
    | 2, hv => simp at hv; subst hv; exact h2
    | 3, hv => simp at hv; subst hv; exact h3
  exact run_loadAt_mid w g o 36 [.int .i64 p.re, .int .i64 p.we, .int .i64 p.li, .int .i64 p.bu] _ hr Tryz.underlying36 rfl pol_info
end Go.Proofs.YtmdmpliiiecmlaaGreat
end

section
namespace Go.Proofs.YtmdmpliiiecmlaaGreat
open Go.ChangeShapes Go.WideShapes Go.ChangeAt Go.RowKit
set_option linter.unusedVariables false

structure Chk where
  id : Int
  vo : Int
  ep : Int
  ms : List Int
  js : List Int
  deriving DecidableEq
structure Vol where
  bl : Int
  p : Pol
  ver : Int
  ks : List Chk
structure St where
  pk : Nat → Int
  vs : Nat → Vol
  md : Int
structure Cmd where
  k : Int
  a : Int
  b : Int
  c : Int
  p : Pol
def pol0 : Pol := ⟨0, 0, 0, 0⟩
def vol0 : Vol := ⟨0, pol0, 0, []⟩
def st0 : St := ⟨fun _ => 0, fun _ => vol0, 0⟩
def setV (s : St) (i : Nat) (v : Vol) : St := { s with vs := fun j => if j = i then v else s.vs j }
theorem setV_same {s : St} {i : Nat} {v : Vol} : (setV s i v).vs i = v := if_pos rfl
theorem setV_other {s : St} {i j : Nat} {v : Vol} (h : j ≠ i) : (setV s i v).vs j = s.vs j := if_neg h
theorem setV_setV {s : St} {i : Nat} {v u : Vol} : setV (setV s i v) i u = setV s i u := by
  unfold setV
  congr 1
  funext j
  simp only
  split <;> rfl
theorem setV_self {s : St} {i : Nat} : setV s i (s.vs i) = s := by
  obtain ⟨pk, vs, md⟩ := s
  unfold setV
  congr 1
  funext j
  simp only
  split
  · rename_i h; rw [h]
  · rfl
def hasK (s : Int) (k : Chk) : Bool := decide (s ∈ k.ms) || decide (s ∈ k.js)
/-- the servers' numbers -/
def serversL (pk : Nat → Int) : List Nat := (List.range 16).filter fun i => decide (0 < pk i)
def polsS (s : St) (sv : Int) : List Pol := ((List.range 64).filter fun i => (s.vs i).ks.any (hasK sv)).map fun i => (s.vs i).p
def admS (s : St) : Bool := (serversL s.pk).all fun i => admitsP (s.pk i) (polsS s i)
def countF (b : Int) : Int := (b + 7) / 8
/-- all who have a chunk, one by one -/
def flatK (l : List Chk) : List Int := l.flatMap fun k => k.ms ++ k.js
def allKs (s : St) (n : Nat) : List Chk := (List.range n).flatMap fun i => (s.vs i).ks
theorem allKs_succ (s : St) (n : Nat) : allKs s (n + 1) = allKs s n ++ (s.vs n).ks := by simp [allKs, List.range_succ]
theorem flatK_append (a b : List Chk) : flatK (a ++ b) = flatK a ++ flatK b := by simp [flatK]
/-- is server a ahead of server b: it has fewer, or as many and a lesser number -/
def fewerB (f : Nat → Nat) (a b : Nat) : Bool := decide (f a < f b) || (decide (f a = f b) && decide (a ≤ b))
def fewF (f : Nat → Nat) (ids : List Nat) (n : Nat) : List Nat := (ids.mergeSort (fewerB f)).take n
def toI (l : List Nat) : List Int := l.map fun (x : Nat) => (x : Int)
/-- n chunks more of a volume, behind those that were made -/
def fillK (ids : List Nat) (vo : Int) (copies : Nat) (md : Int) (hv : List Int) : Nat → List Chk
  | 0 => []
  | n + 1 => fillK ids vo copies md hv n ++ [⟨md + n + 1, vo, 1, toI (fewF (fun i => (hv ++ flatK (fillK ids vo copies md hv n)).count (i : Int)) ids copies), []⟩]
/-- n chunks more -/
def fillQ (s : St) (i : Nat) (copies n : Nat) : St :=
  { setV s i { s.vs i with ks := (s.vs i).ks ++ fillK (serversL s.pk) (i : Int) copies s.md (flatK (allKs s 64)) n } with md := s.md + n }
/-- all that it lacks -/
def fillS (s : St) (i : Nat) (copies : Nat) : St := fillQ s i copies ((countF (s.vs i).bl).toNat - (s.vs i).ks.length)
/-- where a chunk stands -/
def FoundAt (s : St) (id : Int) (i j : Nat) (k : Chk) : Prop := i < 64 ∧ (s.vs i).ks[j]? = some k ∧ k.id = id
def NoChunk (s : St) (id : Int) : Prop := ∀ i, i < 64 → ∀ k ∈ (s.vs i).ks, k.id ≠ id
/-- is there a volume -/
def isVol (s : St) (a : Int) : Bool := decide (0 ≤ a ∧ a ≤ 63) && decide ((s.vs a.toNat).bl ≠ 0)
def isSrv (s : St) (a : Int) : Bool := decide (0 ≤ a ∧ a ≤ 15) && decide (0 < s.pk a.toNat)
def withoutL (l : List Int) (x : Int) : List Int := l.filter fun y => !decide (y = x)
def renewS (s : St) (i j : Nat) (k : Chk) : St := setV s i { s.vs i with ks := (s.vs i).ks.set j { k with ep := k.ep + 1 } }
def findS (s : St) (id : Int) : Option (Nat × Nat × Chk) :=
  (List.range 64).findSome? fun i => ((s.vs i).ks.findIdx? fun k => decide (k.id = id)).bind fun j => ((s.vs i).ks[j]?).map fun k => (i, j, k)
theorem findS_some {s : St} {id : Int} {i j : Nat} {k : Chk} (h : findS s id = some (i, j, k)) : FoundAt s id i j k := by
  unfold findS at h
  obtain ⟨n, hn, h⟩ := List.exists_of_findSome?_eq_some h
  rw [List.mem_range] at hn
  cases hf : (s.vs n).ks.findIdx? (fun k => decide (k.id = id)) with
  | none => simp [hf] at h
  | some m =>
    rw [hf] at h
    simp only [Option.bind_some, Option.map_eq_some_iff, Prod.mk.injEq] at h
    obtain ⟨k', hk, rfl, rfl, rfl⟩ := h
    rw [List.findIdx?_eq_some_iff_getElem] at hf
    obtain ⟨hlt, hp, _⟩ := hf
    obtain ⟨_, e⟩ := List.getElem?_eq_some_iff.1 hk
    refine ⟨hn, hk, ?_⟩
    rw [← e]
    simpa using hp
theorem findS_none {s : St} {id : Int} (h : findS s id = none) : NoChunk s id := by
  intro i hi k hk e
  unfold findS at h
  rw [List.findSome?_eq_none_iff] at h
  have := h i (List.mem_range.2 hi)
  cases hf : (s.vs i).ks.findIdx? (fun k => decide (k.id = id)) with
  | none =>
    rw [List.findIdx?_eq_none_iff] at hf
    have := hf k hk
    simp [e] at this
  | some m =>
    rw [hf] at this
    rw [List.findIdx?_eq_some_iff_getElem] at hf
    obtain ⟨hlt, hp, _⟩ := hf
    simp [List.getElem?_eq_getElem hlt] at this
/-- a command about a chunk k, that is there in just that epoch: an error, or what the chunk is then -/
def chunkF (c : Cmd) (k : Chk) : Chk ⊕ Int :=
  if c.k = 6 then
    if hasK c.c k = false then .inr 1 else if k.ms = [c.c] then .inr 9 else .inl { k with ms := withoutL k.ms c.c, js := withoutL k.js c.c }
  else if c.k = 7 then
    if hasK c.c k = true then .inr 8 else if 4 ≤ k.ms.length + k.js.length then .inr 6 else .inl { k with js := k.js ++ [c.c] }
  else
    if c.c ∈ k.js then .inl { k with ms := k.ms ++ [c.c], js := withoutL k.js c.c } else .inr 1
def chunkS (s : St) (c : Cmd) : St × Int :=
  if c.k = 7 ∧ isSrv s c.c = false then (s, 7) else
  match findS s c.a with
  | none => (s, 7)
  | some (i, j, k) => if k.ep ≠ c.b then (s, 10) else
    match chunkF c k with
    | .inr e => (s, e)
    | .inl k' => (renewS s i j k', 0)
def areB (b : Int) : Bool := decide (1 ≤ b ∧ b ≤ 512)
def doS (s : St) (c : Cmd) : St × Int :=
  if c.k = 1 then
    if decide (0 ≤ c.a ∧ c.a ≤ 15) && decide (1 ≤ c.b ∧ c.b ≤ 64) then ({ s with pk := fun i => if (i : Int) = c.a then c.b else s.pk i }, 0) else (s, 1)
  else if c.k = 2 then
    if !(decide (0 ≤ c.a ∧ c.a ≤ 63) && areB c.b && decide (1 ≤ c.c ∧ c.c ≤ 3) && rightP c.p) then (s, 1)
    else if (s.vs c.a.toNat).bl > 0 then (s, 8)
    else if ((serversL s.pk).length : Int) < c.c then (s, 7)
    else (fillS (setV s c.a.toNat ⟨c.b, c.p, 1, []⟩) c.a.toNat c.c.toNat, 0)
  else if c.k = 3 then
    if isVol s c.a then (setV s c.a.toNat vol0, 0) else (s, 7)
  else if c.k = 4 then
    if areB c.b = false then (s, 1) else if isVol s c.a = false then (s, 7)
    else
      let v := s.vs c.a.toNat
      let u : Vol := { v with bl := c.b, ks := v.ks.take (countF c.b).toNat }
      (fillS (setV s c.a.toNat u) c.a.toNat (match u.ks with | k :: _ => k.ms.length | [] => 0), 0)
  else if c.k = 5 then
    if rightP c.p = false then (s, 1) else if isVol s c.a = false then (s, 7)
    else
      let v := s.vs c.a.toNat
      (setV s c.a.toNat { v with p := c.p, ver := v.ver + 1 }, 0)
  else chunkS s c
def applyS (s : St) (c : Cmd) : St × Int :=
  if 1 ≤ c.k ∧ c.k ≤ 8 then
    if (doS s c).2 ≠ 0 then (s, (doS s c).2) else if admS (doS s c).1 then ((doS s c).1, 0) else (s, 14)
  else (s, 22)

/-! ### bounds -/
structure ChkFit (k : Chk) : Prop where
  id : 0 ≤ k.id ∧ k.id ≤ 35184372088832
  vo : 0 ≤ k.vo ∧ k.vo ≤ 63
  ep : 0 ≤ k.ep ∧ k.ep ≤ 35184372088832
  ml : k.ms.length ≤ 16
  jl : k.js.length ≤ 16
  ms : ∀ x ∈ k.ms, 0 ≤ x ∧ x ≤ 15
  js : ∀ x ∈ k.js, 0 ≤ x ∧ x ≤ 15
structure VolFit (v : Vol) : Prop where
  bl : 0 ≤ v.bl ∧ v.bl ≤ 512
  p : InP v.p
  ver : 0 ≤ v.ver ∧ v.ver ≤ 35184372088832
  kl : v.ks.length ≤ 64
  ks : ∀ k ∈ v.ks, ChkFit k
structure StFit (s : St) : Prop where
  pk : ∀ i, i < 16 → 0 ≤ s.pk i ∧ s.pk i ≤ 9223372036854775807
  vs : ∀ i, i < 64 → VolFit (s.vs i)
  md : 0 ≤ s.md ∧ s.md ≤ 35184372088832
end Go.Proofs.YtmdmpliiiecmlaaGreat
end

section
namespace Go.Proofs.YtmdmpliiiecmlaaGreat
open Go.ChangeShapes Go.WideShapes Go.ChangeAt Go.RowKit
set_option linter.unusedVariables false

/-- a slice: where it begins, its length, its capacity -/
structure Sl where
  A : Option Addr
  n : Nat
  c : Nat
def Sl.v (s : Sl) : Value := .slice s.A s.n s.c
def Sl.nil : Sl := ⟨none, 0, 0⟩
/-- no block of cells of type T is among those of p -/
def NoT (w : World) (T : TypeId) (p : Nat → Prop) : Prop := ∀ k cs fr, p k → w.heap[k]? ≠ some (.cells cs T fr)
theorem NoT.no (w : World) (T : TypeId) : NoT w T (fun _ => False) := fun _ _ _ e => e.elim
/-- the slice at A reads as xs, in a block of cells of type T -/
def SeenT (w : World) (T : TypeId) (A : Option Addr) (xs : List Value) : Prop :=
  Seen w A xs ∧ (xs = [] ∨ ∃ g o cs fr, A = some ⟨g, o, none⟩ ∧ w.heap[g]? = some (.cells cs T fr))
theorem SeenT.turned {p : Nat → Prop} {w w' : World} {T : TypeId} {A : Option Addr} {xs : List Value} (h : SeenT w T A xs) (ht : Turned p w w') (hp : NoT w T p) : SeenT w' T A xs := by
  obtain ⟨h1, h2⟩ := h
  rcases h2 with rfl | ⟨g, o, cs, fr, rfl, hg⟩
  · exact ⟨.inl rfl, .inl rfl⟩
  · have hn : ¬ p g := fun e => hp g cs fr e hg
    exact ⟨ht.seen h1 (fun g' o' e => by injection e with e; injection e with e; subst e; exact hn), .inr ⟨g, o, cs, fr, rfl, ht.heap hg hn⟩⟩
theorem SeenT.below {w w' : World} {T : TypeId} {A : Option Addr} {xs : List Value} (h : SeenT w T A xs) (hb : Below w.heap.size w w') : SeenT w' T A xs := h.turned (p := fun _ => False) (.of_below hb) (NoT.no w T)
theorem SeenT.nil (w : World) (T : TypeId) (A : Option Addr) : SeenT w T A [] := ⟨.inl rfl, .inl rfl⟩
theorem SeenT.take {w : World} {T : TypeId} {A : Option Addr} {xs : List Value} (h : SeenT w T A xs) (k : Nat) : SeenT w T A (xs.take k) := by
  refine ⟨h.1.take k, ?_⟩
  rcases h.2 with rfl | h2
  · exact .inl (by simp)
  · exact .inr h2
/-- rows of one's own -/
theorem own_formM {w : World} {base : Nat} {e : TypeId} {z : Nat} {v : Value} {n : Nat} {xs : List Value} (h : w.ownsRow base e z v n xs) : ∃ A c, v = .slice A n c := by
  rcases h.2 with ⟨rfl, rfl⟩ | ⟨g, cap, cur, rfl, _⟩
  · exact ⟨_, _, rfl⟩
  · exact ⟨_, _, rfl⟩
theorem own_turnedM {p : Nat → Prop} {w w' : World} {base z : Nat} {e : TypeId} {v : Value} {n : Nat} {xs : List Value} (h : Turned p w w') (ho : w.ownsRow base e z v n xs) (hn : ∀ k, v.ownBlock = some k → ¬ p k) : w'.ownsRow base e z v n xs := by
  refine ⟨ho.1, ?_⟩
  rcases ho.2 with h2 | ⟨g, cap, cur, rfl, hg, hh, r⟩
  · exact .inl h2
  · exact .inr ⟨g, cap, cur, rfl, hg, h.heap hh (hn g rfl), r⟩
theorem own_belowM {w w' : World} {b : Nat} {e : TypeId} {z : Nat} {v : Value} {n : Nat} {xs : List Value} (h : w.ownsRow b e z v n xs) (hb : Below w.heap.size w w') : w'.ownsRow b e z v n xs := own_turnedM (Turned.of_below (p := fun _ => False) hb) h fun _ _ e => e
theorem own_baseM {w : World} {b b' : Nat} {e : TypeId} {z : Nat} {v : Value} {n : Nat} {xs : List Value} (h : w.ownsRow b e z v n xs) (hb : b' ≤ b) : w.ownsRow b' e z v n xs := by
  refine ⟨h.1, ?_⟩
  rcases h.2 with h2 | ⟨g, cap, cur, rfl, hg, r⟩
  · exact .inl h2
  · exact .inr ⟨g, cap, cur, rfl, by omega, r⟩
theorem row_blockM {w : World} {base z n : Nat} {e : TypeId} {v : Value} {xs : List Value} (h : w.ownsRow base e z v n xs) {k : Nat} (hk : v.ownBlock = some k) : ∃ cs, w.heap[k]? = some (.cells cs e (0, 0)) := by
  rcases h.2 with ⟨rfl, _⟩ | ⟨g, cap, cur, rfl, _, hh, _⟩
  · cases hk
  · injection hk with hk
    subst hk
    exact ⟨cur, hh⟩
theorem own_capL {w : World} {base z n c : Nat} {A : Option Addr} {e : TypeId} {xs : List Value} (h : w.ownsRow base e z (.slice A n c) n xs) : n ≤ c ∧ c ≤ maxLen := by
  rcases h.2 with ⟨hv, _⟩ | ⟨g', cap, cur, hv, _, _, h1, h2, _⟩
  · injection hv with h1 h2 h3
    subst h2; subst h3
    exact ⟨Nat.le_refl _, Nat.zero_le _⟩
  · injection hv with _ _ h3
    subst h3
    exact ⟨h1, h2⟩
theorem own_seenM {w : World} {base z n c : Nat} {A : Option Addr} {e : TypeId} {xs : List Value} (h : w.ownsRow base e z (.slice A n c) n xs) : Seen w A xs := by
  rcases h.2 with ⟨hv, hn⟩ | ⟨g, cap, cur, hv, _, hh, h1, h2, h3, h4⟩
  · refine .inl ?_
    have := h.1
    exact List.length_eq_zero_iff.1 (by rw [this, hn]; simp)
  · injection hv with hA _ _
    refine .inr ⟨g, 0, hA, fun j v hj => ?_⟩
    have hjl := (List.getElem?_eq_some_iff.1 hj).1
    rw [Nat.zero_add, row_cell hh]
    rw [← h4, List.getElem?_take] at hj
    split at hj
    · simpa using hj
    · cases hj
theorem SeenT.own {w : World} {base z n c : Nat} {A : Option Addr} {T : TypeId} {xs : List Value} (h : w.ownsRow base T z (.slice A n c) n xs) : SeenT w T A xs := by
  refine ⟨own_seenM h, ?_⟩
  rcases h.2 with ⟨hv, hn⟩ | ⟨g, cap, cur, hv, _, hh, _⟩
  · refine .inl ?_
    have := h.1
    exact List.length_eq_zero_iff.1 (by rw [this, hn]; simp)
  · injection hv with hA _ _
    exact .inr ⟨g, 0, cur, _, hA, hh⟩

/-! ### lists of ints -/
/-- a slice that reads as these ints, in a block of ints -/
structure IntsT (w : World) (s : Sl) (us : List Int) : Prop where
  len : us.length = s.n
  cap : s.n ≤ s.c
  max : s.c ≤ maxLen
  see : SeenT w 3 s.A (numsV us)
theorem IntsT.turned {p : Nat → Prop} {w w' : World} {s : Sl} {us : List Int} (h : IntsT w s us) (ht : Turned p w w') (hp : NoT w 3 p) : IntsT w' s us := ⟨h.len, h.cap, h.max, h.see.turned ht hp⟩
theorem IntsT.below {w w' : World} {s : Sl} {us : List Int} (h : IntsT w s us) (hb : Below w.heap.size w w') : IntsT w' s us := ⟨h.len, h.cap, h.max, h.see.below hb⟩
theorem IntsT.nil (w : World) : IntsT w Sl.nil [] := ⟨rfl, Nat.le_refl _, Nat.zero_le _, SeenT.nil _ _ _⟩
theorem IntsT.own {w : World} {base n c : Nat} {A : Option Addr} {us : List Int} (h : w.ownsRow base 3 1 (.slice A n c) n (numsV us)) : IntsT w ⟨A, n, c⟩ us := by
  refine ⟨?_, (own_capL h).1, (own_capL h).2, SeenT.own h⟩
  have := h.1
  rw [numsV_length] at this
  simpa using this

/-! ### chunks -/
/-- a chunk, and where its lists lie -/
structure Ck where
  id : Int
  vo : Int
  ep : Int
  m : Sl
  j : Sl
  ms : List Int
  js : List Int
def Ck.dat (k : Ck) : Chk := ⟨k.id, k.vo, k.ep, k.ms, k.js⟩
def ckC (k : Ck) : List Value := [.int .i64 k.id, .int .i64 k.vo, .int .i64 k.ep, .slice k.m.A k.m.n k.m.c, .slice k.j.A k.j.n k.j.c]
def cksV (X : List Ck) : List Value := X.flatMap ckC
theorem cksV_append (X Y : List Ck) : cksV (X ++ Y) = cksV X ++ cksV Y := by simp [cksV]
theorem cksV_one1 (k : Ck) : cksV [k] = ckC k := by simp [cksV]
theorem cksV_length (X : List Ck) : (cksV X).length = X.length * 5 := by
  induction X with
  | nil => rfl
  | cons p r ih =>
    have : (cksV (p :: r)).length = 5 + (cksV r).length := by simp [cksV, ckC]; omega
    rw [this, ih, List.length_cons]; omega
theorem cksV_get : ∀ {X : List Ck} {i : Nat} {p : Ck}, X[i]? = some p → (cksV X)[i * 5]? = some (.int .i64 p.id) ∧ (cksV X)[i * 5 + 1]? = some (.int .i64 p.vo) ∧ (cksV X)[i * 5 + 2]? = some (.int .i64 p.ep) ∧ (cksV X)[i * 5 + 3]? = some (.slice p.m.A p.m.n p.m.c) ∧ (cksV X)[i * 5 + 4]? = some (.slice p.j.A p.j.n p.j.c)
  | [], _, _, h => by simp at h
  | q :: r, 0, p, h => by
    simp at h
    subst h
    exact ⟨rfl, rfl, rfl, rfl, rfl⟩
  | q :: r, i + 1, p, h => by
    have := cksV_get (X := r) (i := i) (p := p) (by simpa using h)
    have e1 : (i + 1) * 5 = (i * 5) + 1 + 1 + 1 + 1 + 1 := by omega
    rw [e1]
    exact this
theorem cksV_oneCell (X : List Ck) : ∀ u ∈ cksV X, u.oneCell' = true := by
  intro u hu
  simp only [cksV, List.mem_flatMap, ckC, List.mem_cons, List.not_mem_nil, or_false] at hu
  obtain ⟨p, _, rfl | rfl | rfl | rfl | rfl⟩ := hu <;> rfl
theorem cksV_take (X : List Ck) (i : Nat) : (cksV X).take (i * 5) = cksV (X.take i) := by
  by_cases h : i ≤ X.length
  · have e : cksV X = cksV (X.take i) ++ cksV (X.drop i) := by rw [← cksV_append, List.take_append_drop]
    rw [e, List.take_append_of_le_length (by rw [cksV_length, List.length_take]; omega), List.take_of_length_le (by rw [cksV_length, List.length_take]; omega)]
  · rw [List.take_of_length_le (by rw [cksV_length]; omega), List.take_of_length_le (by omega)]
/-- a chunk whose lists can be read -/
structure CkOk (w : World) (k : Ck) : Prop where
  m : IntsT w k.m k.ms
  j : IntsT w k.j k.js
theorem CkOk.turned {p : Nat → Prop} {w w' : World} {k : Ck} (h : CkOk w k) (ht : Turned p w w') (hp : NoT w 3 p) : CkOk w' k := ⟨h.m.turned ht hp, h.j.turned ht hp⟩
theorem CkOk.below {w w' : World} {k : Ck} (h : CkOk w k) (hb : Below w.heap.size w w') : CkOk w' k := ⟨h.m.below hb, h.j.below hb⟩
/-- a slice that reads as these chunks -/
structure KsT (w : World) (s : Sl) (X : List Ck) : Prop where
  len : X.length = s.n
  cap : s.n ≤ s.c
  max : s.c ≤ maxLen
  see : SeenT w 47 s.A (cksV X)
  ok : ∀ k ∈ X, CkOk w k
theorem KsT.turned {p : Nat → Prop} {w w' : World} {s : Sl} {X : List Ck} (h : KsT w s X) (ht : Turned p w w') (hi : NoT w 3 p) (hc : NoT w 47 p) : KsT w' s X := ⟨h.len, h.cap, h.max, h.see.turned ht hc, fun k hk => (h.ok k hk).turned ht hi⟩
theorem KsT.below {w w' : World} {s : Sl} {X : List Ck} (h : KsT w s X) (hb : Below w.heap.size w w') : KsT w' s X := ⟨h.len, h.cap, h.max, h.see.below hb, fun k hk => (h.ok k hk).below hb⟩
theorem KsT.nil (w : World) : KsT w Sl.nil [] := ⟨rfl, Nat.le_refl _, Nat.zero_le _, SeenT.nil _ _ _, fun k hk => by cases hk⟩
/-- a chunk's cells at ⟨g, q⟩ -/
structure CkAt (w : World) (g q : Nat) (k : Ck) : Prop where
  c0 : w.cell? ⟨g, q, none⟩ = some (.int .i64 k.id)
  c1 : w.cell? ⟨g, q + 1, none⟩ = some (.int .i64 k.vo)
  c2 : w.cell? ⟨g, q + 2, none⟩ = some (.int .i64 k.ep)
  c3 : w.cell? ⟨g, q + 3, none⟩ = some (.slice k.m.A k.m.n k.m.c)
  c4 : w.cell? ⟨g, q + 4, none⟩ = some (.slice k.j.A k.j.n k.j.c)
theorem CkAt.below {w w' : World} {g q : Nat} {k : Ck} (h : CkAt w g q k) (hb : Below w.heap.size w w') : CkAt w' g q k := by
  obtain ⟨h0, h1, h2, h3, h4⟩ := h
  exact ⟨by rw [hb.cell (block_lt_of_cell h0)]; exact h0, by rw [hb.cell (block_lt_of_cell h1)]; exact h1, by rw [hb.cell (block_lt_of_cell h2)]; exact h2, by rw [hb.cell (block_lt_of_cell h3)]; exact h3, by rw [hb.cell (block_lt_of_cell h4)]; exact h4⟩
/-- the k-th -/
theorem KsT.get {w : World} {s : Sl} {X : List Ck} (h : KsT w s X) {i : Nat} {k : Ck} (hk : X[i]? = some k) : ∃ g o, s.A = some ⟨g, o, none⟩ ∧ CkAt w g (o + i * 5) k := by
  obtain ⟨e0, e1, e2, e3, e4⟩ := cksV_get hk
  rcases h.see.1 with h | ⟨g, o, hA, hc⟩
  · rw [h] at e0; cases e0
  · exact ⟨g, o, hA, by rw [hc _ _ e0], by rw [Nat.add_assoc, hc _ _ e1], by rw [Nat.add_assoc, hc _ _ e2], by rw [Nat.add_assoc, hc _ _ e3], by rw [Nat.add_assoc, hc _ _ e4]⟩
def ckR (k : Ck) : Array Value := #[.int .i64 k.id, .int .i64 k.vo, .int .i64 k.ep, .slice k.m.A k.m.n k.m.c, .slice k.j.A k.j.n k.j.c]
theorem CkAt.of_row {w : World} {g : Nat} {k : Ck} {t : TypeId} (h : w.heap[g]? = some (.cells #[.int .i64 k.id, .int .i64 k.vo, .int .i64 k.ep, .slice k.m.A k.m.n k.m.c, .slice k.j.A k.j.n k.j.c] t (0, 0))) : CkAt w g 0 k :=
  ⟨row_cell h 0, row_cell h 1, row_cell h 2, row_cell h 3, row_cell h 4⟩
theorem ck_size : (Tryz.prog.info? 47).map (·.size) = some 5 := by kernel_rfl
theorem ck_info : (Tryz.prog.info? 47).map (fun i => (i.zero, i.size, i.bytes)) = some (some (.agg #[.int .i64 0, .int .i64 0, .int .i64 0, .slice none 0 0, .slice none 0 0]), 5, 72) := by kernel_rfl
/-- a whole chunk loaded, under a name -/
def ldCk (p : Value) : Sem Value := Instr.loadAt 47 p
theorem ldCk_eq (p : Value) : Instr.loadAt 47 p = ldCk p := rfl
theorem ldCk_run {w : World} {g o : Nat} {k : Ck} (h : CkAt w g o k) :
    (ldCk (.pointer (some ⟨g, o, none⟩))).run Tryz.prog w = .ok (.agg #[.int .i64 k.id, .int .i64 k.vo, .int .i64 k.ep, .slice k.m.A k.m.n k.m.c, .slice k.j.A k.j.n k.j.c]) w := by
  have hr : w.rangeAt g o [.int .i64 k.id, .int .i64 k.vo, .int .i64 k.ep, .slice k.m.A k.m.n k.m.c, .slice k.j.A k.j.n k.j.c] := fun j v hv => by
    match j, hv with
    | 0, hv => simp at hv; subst hv; exact h.c0
    | 1, hv => simp at hv; subst hv; exact h.c1
    | 2, hv => simp at hv; subst hv; exact h.c2
    | 3, hv => simp at hv; subst hv; exact h.c3
    | 4, hv => simp at hv; subst hv; exact h.c4
  exact run_loadAt_mid w g o 47 [.int .i64 k.id, .int .i64 k.vo, .int .i64 k.ep, .slice k.m.A k.m.n k.m.c, .slice k.j.A k.j.n k.j.c] _ hr Tryz.underlying47 rfl ck_size
/-- a box that holds a chunk -/
theorem ck_box (w : World) (k : Ck) : ∃ W, w.alloc (.cells #[.int .i64 k.id, .int .i64 k.vo, .int .i64 k.ep, .slice k.m.A k.m.n k.m.c, .slice k.j.A k.j.n k.j.c] 47) = W ∧ Below w.heap.size w W ∧ W.heap[w.heap.size]? = some (.cells #[.int .i64 k.id, .int .i64 k.vo, .int .i64 k.ep, .slice k.m.A k.m.n k.m.c, .slice k.j.A k.j.n k.j.c] 47 (0, 0)) :=
  ⟨_, rfl, (Below.refl _ _).alloc (Nat.le_refl _) _, heap_alloc_new _ _⟩

/-! ### a state -/
/-- a state at g: its cells cs, where its volumes' chunks lie, and which they are -/
structure StC (w : World) (g : Nat) (cs : Array Value) (s : St) (K : Nat → Sl) (X : Nat → List Ck) : Prop where
  row : w.heap[g]? = some (.cells cs 61 (0, 0))
  size : cs.size = 465
  pk : ∀ i, i < 16 → cs[i]? = some (.int .i64 (s.pk i))
  c0 : ∀ i, i < 64 → cs[16 + i * 7]? = some (.int .i64 (s.vs i).bl)
  c1 : ∀ i, i < 64 → cs[16 + i * 7 + 1]? = some (.int .i64 (s.vs i).p.re)
  c2 : ∀ i, i < 64 → cs[16 + i * 7 + 2]? = some (.int .i64 (s.vs i).p.we)
  c3 : ∀ i, i < 64 → cs[16 + i * 7 + 3]? = some (.int .i64 (s.vs i).p.li)
  c4 : ∀ i, i < 64 → cs[16 + i * 7 + 4]? = some (.int .i64 (s.vs i).p.bu)
  c5 : ∀ i, i < 64 → cs[16 + i * 7 + 5]? = some (.int .i64 (s.vs i).ver)
  c6 : ∀ i, i < 64 → cs[16 + i * 7 + 6]? = some (.slice (K i).A (K i).n (K i).c)
  md : cs[464]? = some (.int .i64 s.md)
  ks : ∀ i, i < 64 → KsT w (K i) (X i)
  dat : ∀ i, i < 64 → (X i).map Ck.dat = (s.vs i).ks
def StAt (w : World) (g : Nat) (s : St) : Prop := ∃ cs K X, StC w g cs s K X
/-- the types of a state's blocks that it shares, and never writes -/
def NoCk (w : World) (p : Nat → Prop) : Prop := NoT w 3 p ∧ NoT w 47 p
theorem NoCk.no (w : World) : NoCk w (fun _ => False) := ⟨NoT.no _ _, NoT.no _ _⟩
theorem StC.turned {p : Nat → Prop} {w w' : World} {g : Nat} {cs : Array Value} {s : St} {K : Nat → Sl} {X : Nat → List Ck} (h : StC w g cs s K X) (ht : Turned p w w') (hg : ¬ p g) (hn : NoCk w p) : StC w' g cs s K X :=
  ⟨ht.heap h.row hg, h.size, h.pk, h.c0, h.c1, h.c2, h.c3, h.c4, h.c5, h.c6, h.md, fun i hi => (h.ks i hi).turned ht hn.1 hn.2, h.dat⟩
theorem StC.below {w w' : World} {g : Nat} {cs : Array Value} {s : St} {K : Nat → Sl} {X : Nat → List Ck} (h : StC w g cs s K X) (hb : Below w.heap.size w w') : StC w' g cs s K X := h.turned (p := fun _ => False) (.of_below hb) id (NoCk.no w)
theorem StAt.turned {p : Nat → Prop} {w w' : World} {g : Nat} {s : St} (h : StAt w g s) (ht : Turned p w w') (hg : ¬ p g) (hn : NoCk w p) : StAt w' g s := by
  obtain ⟨cs, K, X, h⟩ := h
  exact ⟨cs, K, X, h.turned ht hg hn⟩
theorem StAt.below {w w' : World} {g : Nat} {s : St} (h : StAt w g s) (hb : Below w.heap.size w w') : StAt w' g s := h.turned (p := fun _ => False) (.of_below hb) id (NoCk.no w)
theorem StC.lt {w : World} {g : Nat} {cs : Array Value} {s : St} {K : Nat → Sl} {X : Nat → List Ck} (h : StC w g cs s K X) : g < w.heap.size := (Array.getElem?_eq_some_iff.1 h.row).1
theorem StAt.lt {w : World} {g : Nat} {s : St} (h : StAt w g s) : g < w.heap.size := by
  obtain ⟨cs, K, X, h⟩ := h
  exact h.lt
/-- its own block holds no ints and no chunks -/
theorem StC.noCk {w : World} {g : Nat} {cs : Array Value} {s : St} {K : Nat → Sl} {X : Nat → List Ck} (h : StC w g cs s K X) : NoCk w (fun k => k = g) := by
  refine ⟨fun k cs' fr hk e => ?_, fun k cs' fr hk e => ?_⟩
  · subst hk
    rw [h.row] at e
    injection e with e
    injection e with _ e
    exact absurd e (by decide)
  · subst hk
    rw [h.row] at e
    injection e with e
    injection e with _ e
    exact absurd e (by decide)
/-- other cells at g, that say s' -/
theorem StC.len {w : World} {g : Nat} {cs : Array Value} {s : St} {K : Nat → Sl} {X : Nat → List Ck} (h : StC w g cs s K X) {i : Nat} (hi : i < 64) : (s.vs i).ks.length = (K i).n := by
  rw [← h.dat i hi, List.length_map, (h.ks i hi).len]
theorem StC.cell {w : World} {g : Nat} {cs : Array Value} {s : St} {K : Nat → Sl} {X : Nat → List Ck} (h : StC w g cs s K X) (j : Nat) : w.cell? ⟨g, j, none⟩ = cs[j]? := row_cell h.row j
end Go.Proofs.YtmdmpliiiecmlaaGreat
end
