/-
  Joined: Words, Kept, VolMap, Fields, Law, Nums. Conditions: each theorem's own.
-/
import Derived.WalkKit
import Derived.ProofKit
import Derived.OpenShut
import Derived.Laws.CopyOwn
import Derived.Maps.AppendAt
import Derived.Deep.AppendLies
import Derived.Lib.Hide
import Derived.Deep.Draws
import Derived.Test.YteebkolccbcehaaGreatProg
import Derived.Maps.RangeWalk
import Derived.Maps.OwnSet
import Derived.Laws.OwnMore
import Derived.Deep.Slices
import Derived.Deep.Fields
import Derived.ChangeSame
import Derived.Below

section
set_option linter.all false
namespace Go.Proofs.YteebkolccbcehaaGreat
theorem iq1 : type_of% @List.setIfInBounds_toArray := @List.setIfInBounds_toArray
@[defeq] theorem iq2 : type_of% @List.set_cons_zero := @List.set_cons_zero
@[defeq] theorem iq3 : type_of% @List.set_cons_succ := @List.set_cons_succ
@[defeq] theorem iq4 : type_of% @List.getElem_toArray := @List.getElem_toArray
@[defeq] theorem iq5 : type_of% @List.getElem_cons_succ := @List.getElem_cons_succ
@[defeq] theorem iq6 : type_of% @List.getElem_cons_zero := @List.getElem_cons_zero
theorem ihq {p : Prop} (h : p) : Go.RowKit.Hid p := Lib.hid h
open Go.ChangeShapes Go.WideShapes Go.ChangeAt Go.RowKit
def XF (x : UInt8) : Value := .int .u8 (x.toNat : Int)
def zT (bs : List UInt8) : List Value := bs.map XF
def Seen (w : World) (A : Option Addr) (xs : List Value) : Prop :=
 xs = [] \/ ∃ g o, A = some ⟨g, o, none⟩ /\ ∀ (j : Nat) v, xs[j]? = some v -> w.cell? ⟨g, o + j, none⟩ = some v
theorem Seen.nil (w : World) (A : Option Addr) : Seen w A [] := .inl rfl
theorem Seen.at_ {w : World} {A : Option Addr} {xs : List Value} (h : Seen w A xs) {j : Nat} (hj : j < xs.length) :
  ∃ g o, A = some ⟨g, o, none⟩ /\ w.cell? ⟨g, o + j, none⟩ = some xs[j] := by
 rcases h with rfl | ⟨g, o, hA, hc⟩
 ·simp at hj
 ·exact ⟨g, o, hA, hc j _ (List.getElem?_eq_getElem hj)⟩
theorem Seen.byte {w : World} {A : Option Addr} {bs : List UInt8} (h : Seen w A (zT bs)) {j : Nat} (hj : j < bs.length) :
  ∃ g o, A = some ⟨g, o, none⟩ /\ w.cell? ⟨g, o + j, none⟩ = some (.int .u8 ((bs[j].toNat : Nat) : Int)) := by
 obtain ⟨g, o, hA, hc⟩ := h.at_ (j := j) (by simpa [zT] using hj)
 exact ⟨g, o, hA, by simpa [zT, XF] using hc⟩
theorem Seen.byteAt {w : World} {A : Option Addr} {bs : List UInt8} (h : Seen w A (zT bs)) {j : Nat} (hj : j < bs.length) :
  ∃ g o x, A = some ⟨g, o, none⟩ /\ bs[j]? = some x /\ bs.take (j + 1) = bs.take j ++ [x] /\ w.cell? ⟨g, o + j, none⟩ = some (.int .u8 ((x.toNat : Nat) : Int)) := by
 obtain ⟨g, o, hA, hc⟩ := h.byte hj
 exact ⟨g, o, bs[j], hA, List.getElem?_eq_getElem hj, List.take_succ_eq_append_getElem hj, hc⟩
theorem Seen.keep {w w' : World} {A : Option Addr} {xs : List Value} (h : Seen w A xs) (hk : ∀ p : Addr, p.block < w.heap.size -> w'.cell? p = w.cell? p) : Seen w' A xs := by
 rcases h with rfl | ⟨g, o, hA, hc⟩
 ·exact .inl rfl
 ·refine .inr ⟨g, o, hA, fun j v hv => ?_⟩
  have h1 := hc j v hv
  rw [hk _ (block_lt_of_cell h1)]
  exact h1
theorem Seen.below {w w' : World} {A : Option Addr} {xs : List Value} (h : Seen w A xs) (hb : Below w.heap.size w w') : Seen w' A xs := h.keep fun _ hp => hb.cell hp
theorem Seen.alloc {w : World} {A : Option Addr} {xs : List Value} (h : Seen w A xs) (o : Obj) : Seen (w.alloc o) A xs := h.below ((Below.refl _ _).alloc (Nat.le_refl _) o)
theorem Seen.take {w : World} {A : Option Addr} {xs : List Value} (h : Seen w A xs) (k : Nat) : Seen w A (xs.take k) := by
 rcases h with rfl | ⟨g, o, hA, hc⟩
 ·simp [Seen]
 ·refine .inr ⟨g, o, hA, fun j v hv => ?_⟩
  rw [List.getElem?_take] at hv
  split at hv
  ·exact hc j v hv
  ·cases hv
theorem Seen.drop {w : World} {A : Option Addr} {xs : List Value} (h : Seen w A xs) {k cap : Nat} (hc : xs.length <= cap) :
  Seen w (if cap = k then A else A.map (·.add k)) (xs.drop k) := by
 by_cases hk : xs.length <= k
 ·rw [List.drop_eq_nil_of_le hk]; exact .inl rfl
 ·rw [if_neg (by omega)]
  rcases h with rfl | ⟨g, o, rfl, hc⟩
  ·simp at hk
  ·refine .inr ⟨g, o + k, by simp [Addr.add_lit], fun j v hv => ?_⟩
   rw [List.getElem?_drop] at hv
   have := hc (k + j) v hv
   rwa [show o + k + j = o + (k + j) by omega]
theorem Seen.of_own {w : World} {base : Nat} {e : TypeId} {A : Option Addr} {n c : Nat} {xs : List Value} (h : w.ownsRow base e 1 (.slice A n c) n xs) : Seen w A xs := by
 by_cases hx : xs = []
 ·exact .inl hx
 ·have hn : 0 < n := by
   have := h.1
   have : 0 < xs.length := List.length_pos_iff.2 hx
   omega
  obtain ⟨g, cap, hv, _, hlt⟩ := h.form hn
  injection hv with hA
  subst hA
  refine .inr ⟨g, 0, rfl, fun j v hv => ?_⟩
  have := h.cells (g := g) rfl j v hv
  rwa [Addr.add_lit] at this
def Zd (e : TypeId) (xs : List Value) (w : World) (en : Ending) (w' : World) : Prop :=
 ∃ A c, en = .returned (.slice A xs.length c) /\ w'.ownsRow w.heap.size e 1 (.slice A xs.length c) xs.length xs /\ Below w.heap.size w w'
theorem ZP {w w' : World} {base : Nat} {e : TypeId} {v : Value} {n : Nat} {xs : List Value} (h : w.ownsRow base e 1 v n xs) (hb : Below w.heap.size w w') : w'.ownsRow base e 1 v n xs := by
 refine ⟨h.1, ?_⟩
 rcases h.2 with h2 | ⟨g, cap, cur, hv, hg, hh, r⟩
 ·exact .inl h2
 ·exact .inr ⟨g, cap, cur, hv, hg, by rw [hb.block g (Array.getElem?_eq_some_iff.1 hh).1]; exact hh, r⟩
theorem Y1 {w : World} {base : Nat} {e : TypeId} {v : Value} {n : Nat} {xs : List Value} (h : w.ownsRow base e 1 v n xs) : ∃ A c, v = .slice A n c := by
 rcases h.2 with ⟨rfl, rfl⟩ | ⟨g, cap, cur, rfl, _⟩
 ·exact ⟨_, _, rfl⟩
 ·exact ⟨_, _, rfl⟩
section
variable {P : Program} {w : World}
theorem run_app (t ty e : TypeId) (z : Value) (bytes : Nat) (ht : P.underlying t = some (.slice e)) (hinfo : (P.info? e).map (fun i => (i.zero, i.size, i.bytes)) = some (some z, 1, bytes)) (hz1 : z.cells.size = 1)
  (base : Nat) (A : Option Addr) (n c : Nat) (xs : List Value) (hown : w.ownsRow base e 1 (.slice A n c) n xs) (A2 : Option Addr) (m c2 : Nat) (news : List Value) (hm : news.length = m) (hsee : Seen w A2 news)
  (h1 : ∀ u ∈ news, u.oneCell' = true) (h63 : n + m <= maxLen) (hbytes : (n + m) * bytes <= 140737488355328) (hbase : base <= w.heap.size) :
  ∃ A' c' w', (Builtin.append_ #[t, t] ty #[.slice A n c, .slice A2 m c2]).run P w = .ok (.slice A' (n + m) c') w' /\ w'.ownsRow base e 1 (.slice A' (n + m) c') (n + m) (xs ++ news) /\ Below base w w' := by
 obtain ⟨i, hi, hz, hs, hb⟩ := info_parts hinfo
 cases A2 with
 | none =>
  have hn : news = [] := by
   rcases hsee with h | ⟨g, o, hA, _⟩
   ·exact h
   ·cases hA
  subst hn
  subst hm
  refine ⟨A, c, w, ?_, by simpa using hown, Below.refl _ _⟩
  rcases hown.2 with ⟨hv, hn⟩ | ⟨g, cap, cur, hv, _, _, hnc, _⟩
  ·injection hv with h1 h2 h3
   subst h1; subst h2; subst h3
   simp [Builtin.append_, run_underlying ht, sizeOf, typeInfo, hi, Builtin.lenOf, Builtin.firstCells]
  ·injection hv with h1 h2 h3
   subst h1; subst h3
   simp [Builtin.append_, run_underlying ht, sizeOf, typeInfo, hi, Builtin.lenOf, Builtin.firstCells, hnc, storeCells]
 | some ad =>
  have hcells : ∀ (j : Nat) u, news[j]? = some u -> w.cell? (ad.add j) = some u := by
   intro j u hu
   rcases hsee with rfl | ⟨g, o, hA, hc⟩
   ·simp at hu
   ·injection hA with hA
    subst hA
    rw [Addr.add_lit]
    exact hc j u hu
  obtain ⟨v', w', hrun, hown', hg, _, hblk⟩ := run_append_own_at (P := P) w base t ty e i z 1 bytes ht hi hz hs hb hz1 (by omega) _ n xs hown ad m c2 news (by omega) hcells h1 h63 hbytes hbase
  obtain ⟨A', c', rfl⟩ := Y1 hown'
  exact ⟨A', c', w', hrun, hown', (Below.refl _ _).grown hg hbase fun k hk => (hown.lt k hk).1⟩
theorem wpList_app {ops : Array Oper} {rest : List Oper} {o : Oper} {a : Act} {Q : Exit -> Act -> World -> Prop} (hgd : o.guard = none) (s x : Operand) (t : TypeId)
  (ho : o.op = .call { callee := .builtin .append, args := #[s, x], argTypes := #[t, t] })
  (e : TypeId) (z : Value) (bytes : Nat) (ht : P.underlying t = some (.slice e)) (hinfo : (P.info? e).map (fun i => (i.zero, i.size, i.bytes)) = some (some z, 1, bytes)) (hz1 : z.cells.size = 1)
  (base : Nat) (A : Option Addr) (n c : Nat) (xs : List Value) (hs : a.eval s = .slice A n c) (hown : w.ownsRow base e 1 (.slice A n c) n xs)
  (A2 : Option Addr) (m c2 : Nat) (news : List Value) (hx : a.eval x = .slice A2 m c2) (hm : news.length = m) (hsee : Seen w A2 news) (h1 : ∀ u ∈ news, u.oneCell' = true)
  (h63 : n + m <= maxLen) (hbytes : (n + m) * bytes <= 140737488355328) (hbase : base <= w.heap.size)
  (h : ∀ A' c' w', w'.ownsRow base e 1 (.slice A' (n + m) c') (n + m) (xs ++ news) -> Below base w w' -> wpList P ops Q rest (a.put o.dst (.slice A' (n + m) c')) w') : wpList P ops Q (o :: rest) a w :=
 wpList_plain hgd fun K hK => by
  obtain ⟨A', c', w', hrun, h2, h3⟩ := run_app (P := P) t o.type e z bytes ht hinfo hz1 base A n c xs hown A2 m c2 news hm hsee h1 h63 hbytes hbase
  unfold Oper.wp execOp
  simp only [ho, resolve, invoke, builtin, Sem.run_bind, Sem.run_pure, Result.andThen_ok, List.map_toArray, List.map_cons, List.map_nil, hs, hx, hrun]
  exact hK _ _ (h A' c' w' h2 h3)
end
theorem bytes_one (bs : List UInt8) : ∀ u ∈ zT bs, u.oneCell' = true := by
 intro u hu
 simp only [zT, List.mem_map] at hu
 obtain ⟨x, _, rfl⟩ := hu
 rfl
theorem xd (bs : List UInt8) : (zT bs).length = bs.length := by simp [zT]
theorem bytes_append (a b : List UInt8) : zT (a ++ b) = zT a ++ zT b := by simp [zT]
theorem Seen.of_cells {w : World} {g : Nat} {t : TypeId} {cs : Array Value} {fr : Nat × Nat} (h : w.heap[g]? = some (.cells cs t fr)) : Seen w (some ⟨g, 0, none⟩) cs.toList :=
 .inr ⟨g, 0, rfl, fun j v hv => by rw [cell_of_row w g _ cs t fr h, Nat.zero_add]; simpa using hv⟩
theorem seen_drop {w : World} {A : Option Addr} {bs : List UInt8} {K c : Nat} (h : Seen w A (zT bs)) (hc : bs.length <= c) : Seen w (if c = K then A else A.map (·.add K)) (zT (bs.drop K)) := by
 have := h.drop (k := K) (cap := c) (by rw [xd]; exact hc)
 rwa [zT, <- List.map_drop] at this
theorem yi {B : Nat} {a w : World} (h : Below B a w) (n : Nat) : Below B a (w.drewN n) := ⟨h.os, h.tape, h.output, h.size, h.block⟩
theorem new_two (W : World) (u v : Value) (t : TypeId) : (W.alloc (.cells #[u, v] t)).cell? ⟨W.heap.size, 0, none⟩ = some u /\ (W.alloc (.cells #[u, v] t)).cell? ⟨W.heap.size, 1, none⟩ = some v :=
 ⟨cell_of_row _ _ 0 _ _ (0, 0) (heap_alloc_new W _), cell_of_row _ _ 1 _ _ (0, 0) (heap_alloc_new W _)⟩
end Go.Proofs.YteebkolccbcehaaGreat
end

section
set_option linter.all false
namespace Go.Proofs.YteebkolccbcehaaGreat
open Go.ChangeShapes Go.WideShapes Go.ChangeAt Go.RowKit
structure Turned (p : Nat -> Prop) (w w' : World) : Prop where
 os : w'.os = w.os
 tape : w'.tape = w.tape
 output : w'.output = w.output
 size : w.heap.size <= w'.heap.size
 block : ∀ k, k < w.heap.size -> ¬ p k -> w'.heap[k]? = w.heap[k]?
theorem Turned.refl (p : Nat -> Prop) (w : World) : Turned p w w := ⟨rfl, rfl, rfl, Nat.le_refl _, fun _ _ _ => rfl⟩
theorem Turned.trans {p q r : Nat -> Prop} {a b c : World} (h : Turned p a b) (k : Turned q b c) (hp : ∀ k, p k -> r k) (hq : ∀ k, k < a.heap.size -> q k -> r k) : Turned r a c :=
 ⟨k.os.trans h.os, k.tape.trans h.tape, k.output.trans h.output, Nat.le_trans h.size k.size, fun i hi hn => (k.block i (Nat.lt_of_lt_of_le hi h.size) fun e => hn (hq i hi e)).trans (h.block i hi fun e => hn (hp i e))⟩
theorem Turned.mono {p q : Nat -> Prop} {a b : World} (h : Turned p a b) (hp : ∀ k, k < a.heap.size -> p k -> q k) : Turned q a b := ⟨h.os, h.tape, h.output, h.size, fun i hi hn => h.block i hi fun e => hn (hp i hi e)⟩
theorem Turned.of_below {p : Nat -> Prop} {w w' : World} (h : Below w.heap.size w w') : Turned p w w' := ⟨h.os, h.tape, h.output, h.size, fun k hk _ => h.block k hk⟩
theorem Turned.below {p : Nat -> Prop} {B : Nat} {w w' : World} (h : Turned p w w') (hp : ∀ k, p k -> B <= k) (hB : B <= w.heap.size) : Below B w w' :=
 ⟨h.os, h.tape, h.output, h.size, fun k hk => h.block k (Nat.lt_of_lt_of_le hk hB) fun e => absurd (hp k e) (by omega)⟩
theorem Turned.alloc {p : Nat -> Prop} {a w : World} (h : Turned p a w) (o : Obj) : Turned p a (w.alloc o) := h.trans (.of_below ((Below.refl _ _).alloc (Nat.le_refl _) o)) (fun _ e => e) (fun _ _ e => e)
theorem Turned.setCell {p : Nat -> Prop} {a w : World} (h : Turned p a w) {b : Addr} (hb : b.block < a.heap.size -> p b.block) (u : Value) : Turned p a (w.setCell b u) :=
 ⟨h.os, h.tape, h.output, by simpa [World.setCell] using h.size, fun k hk hn => by
  rw [Below.heap_setCell _ _ _ _ (fun e => hn (by subst e; exact hb hk))]
  exact h.block k hk hn⟩
theorem Turned.of_grown {p : Nat -> Prop} {w w' : World} {row : Option Nat} (h : w.grownBy w' row) (hp : ∀ k, row = some k -> p k) : Turned p w w' :=
 ⟨h.os, h.tape, h.output, h.size, fun k hk hn => h.block k hk fun e => hn (hp k e.symm)⟩
theorem Turned.heap {p : Nat -> Prop} {w w' : World} (h : Turned p w w') {k : Nat} {o : Obj} (hk : w.heap[k]? = some o) (hn : ¬ p k) : w'.heap[k]? = some o := by
 rw [h.block k (Array.getElem?_eq_some_iff.1 hk).1 hn]
 exact hk
theorem Turned.seen {p : Nat -> Prop} {w w' : World} {A : Option Addr} {xs : List Value} (h : Turned p w w') (hs : Seen w A xs) (hn : ∀ g o, A = some ⟨g, o, none⟩ -> ¬ p g) : Seen w' A xs := by
 rcases hs with rfl | ⟨g, o, hA, hc⟩
 ·exact .inl rfl
 ·refine .inr ⟨g, o, hA, fun j v hv => ?_⟩
  have h1 := hc j v hv
  rw [<- h1]
  exact World.cell?_of_block (w := w) (h.block g (block_lt_of_cell h1) (hn g o hA))
theorem Turned.own {p : Nat -> Prop} {w w' : World} {base : Nat} {e : TypeId} {v : Value} {n : Nat} {xs : List Value} (h : Turned p w w') (ho : w.ownsRow base e 1 v n xs) (hn : ∀ k, v.ownBlock = some k -> ¬ p k) : w'.ownsRow base e 1 v n xs := by
 refine ⟨ho.1, ?_⟩
 rcases ho.2 with h2 | ⟨g, cap, cur, rfl, hg, hh, r⟩
 ·exact .inl h2
 ·exact .inr ⟨g, cap, cur, rfl, hg, h.heap hh (hn g rfl), r⟩
theorem Turned.cell {p : Nat -> Prop} {w w' : World} (h : Turned p w w') {a : Addr} {v : Value} (hc : w.cell? a = some v) (hn : ¬ p a.block) : w'.cell? a = some v := by
 rw [<- hc]; exact World.cell?_of_block (w := w) (h.block a.block (block_lt_of_cell hc) hn)
theorem zc {w : World} {g : Nat} {cs : Array Value} {t : TypeId} (h : w.heap[g]? = some (.cells cs t (0, 0))) (j : Nat) : w.cell? ⟨g, j, none⟩ = cs[j]? := cell_of_row w g j cs t (0, 0) h
theorem zt {w : World} {g : Nat} {cs : Array Value} {t : TypeId} (h : w.heap[g]? = some (.cells cs t (0, 0))) (j : Nat) : w.frozen? ⟨g, j, none⟩ = false := by
 simp [World.frozen?, h]
theorem zG {w : World} {g : Nat} {cs : Array Value} {t : TypeId} (h : w.heap[g]? = some (.cells cs t (0, 0))) (j : Nat) (u : Value) : (w.setCell ⟨g, j, none⟩ u).heap[g]? = some (.cells (cs.setIfInBounds j u) t (0, 0)) := by
 simp [World.setCell, Array.getElem?_modify, h]
section
variable {P : Program} {w : World}
theorem run_app2 (t ty e : TypeId) (z : Value) (bytes : Nat) (ht : P.underlying t = some (.slice e)) (hinfo : (P.info? e).map (fun i => (i.zero, i.size, i.bytes)) = some (some z, 1, bytes)) (hz1 : z.cells.size = 1)
  (base : Nat) (A : Option Addr) (n c : Nat) (xs : List Value) (hown : w.ownsRow base e 1 (.slice A n c) n xs) (A2 : Option Addr) (m c2 : Nat) (news : List Value) (hm : news.length = m) (hsee : Seen w A2 news)
  (h1 : ∀ u ∈ news, u.oneCell' = true) (h63 : n + m <= maxLen) (hbytes : (n + m) * bytes <= 140737488355328) (hbase : base <= w.heap.size) :
  ∃ A' c' w', (Builtin.append_ #[t, t] ty #[.slice A n c, .slice A2 m c2]).run P w = .ok (.slice A' (n + m) c') w' /\ w'.ownsRow base e 1 (.slice A' (n + m) c') (n + m) (xs ++ news) /\ w.grownBy w' (Value.slice A n c).ownBlock /\
   (∀ k, (Value.slice A' (n + m) c').ownBlock = some k -> (Value.slice A n c).ownBlock = some k \/ k = w.heap.size) := by
 obtain ⟨i, hi, hz, hs, hb⟩ := info_parts hinfo
 cases A2 with
 | none =>
  have hn : news = [] := by
   rcases hsee with h | ⟨g, o, hA, _⟩
   ·exact h
   ·cases hA
  subst hn
  subst hm
  refine ⟨A, c, w, ?_, by simpa using hown, ⟨rfl, rfl, rfl, Nat.le_refl _, fun _ _ _ => rfl⟩, fun k hk => .inl hk⟩
  rcases hown.2 with ⟨hv, hn⟩ | ⟨g, cap, cur, hv, _, _, hnc, _⟩
  ·injection hv with h1 h2 h3
   subst h1; subst h2; subst h3
   simp [Builtin.append_, run_underlying ht, sizeOf, typeInfo, hi, Builtin.lenOf, Builtin.firstCells]
  ·injection hv with h1 h2 h3
   subst h1; subst h3
   simp [Builtin.append_, run_underlying ht, sizeOf, typeInfo, hi, Builtin.lenOf, Builtin.firstCells, hnc, storeCells]
 | some ad =>
  have hcells : ∀ (j : Nat) u, news[j]? = some u -> w.cell? (ad.add j) = some u := by
   intro j u hu
   rcases hsee with rfl | ⟨g, o, hA, hc⟩
   ·simp at hu
   ·injection hA with hA
    subst hA
    rw [Addr.add_lit]
    exact hc j u hu
  obtain ⟨v', w', hrun, hown', hg, _, hblk⟩ := run_append_own_at (P := P) w base t ty e i z 1 bytes ht hi hz hs hb hz1 (by omega) _ n xs hown ad m c2 news (by omega) hcells h1 h63 hbytes hbase
  obtain ⟨A', c', rfl⟩ := Y1 hown'
  refine ⟨A', c', w', hrun, hown', hg, fun k hk => ?_⟩
  rcases hblk with h | h
  ·exact .inl (by rw [<- h]; exact hk)
  ·rw [h] at hk
   injection hk with hk
   exact .inr hk.symm
theorem ym {ops : Array Oper} {rest : List Oper} {o : Oper} {a : Act} {Q : Exit -> Act -> World -> Prop} (hgd : o.guard = none) (s x : Operand) (t : TypeId)
  (ho : o.op = .call { callee := .builtin .append, args := #[s, x], argTypes := #[t, t] })
  (e : TypeId) (z : Value) (bytes : Nat) (ht : P.underlying t = some (.slice e)) (hinfo : (P.info? e).map (fun i => (i.zero, i.size, i.bytes)) = some (some z, 1, bytes)) (hz1 : z.cells.size = 1)
  (base : Nat) (A : Option Addr) (n c : Nat) (xs : List Value) (hs : a.eval s = .slice A n c) (hown : w.ownsRow base e 1 (.slice A n c) n xs)
  (A2 : Option Addr) (m c2 : Nat) (news : List Value) (hx : a.eval x = .slice A2 m c2) (hm : news.length = m) (hsee : Seen w A2 news) (h1 : ∀ u ∈ news, u.oneCell' = true)
  (h63 : n + m <= maxLen) (hbytes : (n + m) * bytes <= 140737488355328) (hbase : base <= w.heap.size)
  (h : ∀ A' c' w', w'.ownsRow base e 1 (.slice A' (n + m) c') (n + m) (xs ++ news) -> w.grownBy w' (Value.slice A n c).ownBlock -> (∀ k, (Value.slice A' (n + m) c').ownBlock = some k -> (Value.slice A n c).ownBlock = some k \/ k = w.heap.size) ->
   wpList P ops Q rest (a.put o.dst (.slice A' (n + m) c')) w') : wpList P ops Q (o :: rest) a w :=
 wpList_plain hgd fun K hK => by
  obtain ⟨A', c', w', hrun, h2, h3, h4⟩ := run_app2 (P := P) t o.type e z bytes ht hinfo hz1 base A n c xs hown A2 m c2 news hm hsee h1 h63 hbytes hbase
  unfold Oper.wp execOp
  simp only [ho, resolve, invoke, builtin, Sem.run_bind, Sem.run_pure, Result.andThen_ok, List.map_toArray, List.map_cons, List.map_nil, hs, hx, hrun]
  exact hK _ _ (h A' c' w' h2 h3 h4)
end
end Go.Proofs.YteebkolccbcehaaGreat
end

section
set_option linter.all false
namespace Go.Proofs.YteebkolccbcehaaGreat
open Go.ChangeShapes Go.WideShapes Go.ChangeAt Go.RowKit Go.Maps
def insK (k : Int) : List Int -> List Int
 | [] => [k]
 | y :: r => if k < y then k :: y :: r else y :: insK k r
def outK (ks : List Int) (k : Int) : List Int := ks.filter fun j => j != k
def putK (ks : List Int) (k : Int) : List Int := insK k (outK ks k)
theorem mem_insK {k j : Int} : ∀ {ks : List Int}, j ∈ insK k ks ↔ j = k \/ j ∈ ks
 | [] => by simp [insK]
 | y :: r => by
  unfold insK
  split
  ·simp
  ·simp only [List.mem_cons, mem_insK (ks := r)]
   constructor
   ·rintro (h | h | h)
    ·exact .inr (.inl h)
    ·exact .inl h
    ·exact .inr (.inr h)
   ·rintro (h | h | h)
    ·exact .inr (.inl h)
    ·exact .inl h
    ·exact .inr (.inr h)
theorem mem_outK {k j : Int} {ks : List Int} : j ∈ outK ks k ↔ j ∈ ks /\ j ≠ k := by simp [outK]
theorem mem_putK {k j : Int} {ks : List Int} : j ∈ putK ks k ↔ j = k \/ j ∈ ks := by
 unfold putK
 rw [mem_insK, mem_outK]
 by_cases e : j = k <;> simp [e]
theorem keyed : Keyed Tryz.prog 3 := int_keyed Tryz.underlying3
theorem key_of {k : Int} (h1 : -9223372036854775808 <= k) (h2 : k <= 9223372036854775807) : keyOf Tryz.prog 3 (.int .i64 k) = some (.int .i64 k) :=
 keyOf_int_mk Tryz.underlying3 (WalkArith.wf_i64 (by omega))
def XY (v : Value) : Option (DataW Value × List MemPlace) := some (.held v, [])
theorem map_turned {p : Nat -> Prop} {w w' : World} {m n : Nat} {D : DataW Value} (h : w.ownsMap Tryz.prog 3 XY m n D) (ht : Turned p w w') (hp : ¬ p m) : w'.ownsMap Tryz.prog 3 XY m n D := by
 obtain ⟨es, clock, hb, F, hs, hD⟩ := h
 exact ⟨es, clock, ht.heap hb hp, F, hs, hD⟩
theorem map_lt {w : World} {m n : Nat} {D : DataW Value} (h : w.ownsMap Tryz.prog 3 XY m n D) : ∃ es clock, w.heap[m]? = some (.map es clock) := by
 obtain ⟨es, clock, hb, _⟩ := h
 exact ⟨es, clock, hb⟩
theorem map_size {w : World} {m n : Nat} {D : DataW Value} (h : w.ownsMap Tryz.prog 3 XY m n D) : w.ownsMap Tryz.prog 3 XY m (Maps.size D) D := by
 obtain ⟨es, clock, hb, F, hs, rfl⟩ := h
 exact ⟨es, clock, hb, F, by simp [Maps.size, length_sorted], rfl⟩
theorem Qt {w w' : World} {b : Nat} (h : w.mapTurned w' b) : Turned (fun k => k = b) w w' := Turned.of_grown h.grown (p := fun k => k = b) fun k e => by injection e with e; exact e.symm
def updV (F : Int -> Value) (k : Int) (v : Value) (j : Int) : Value := if j = k then v else F j
theorem updV_same {F : Int -> Value} {k : Int} {v : Value} : updV F k v k = v := if_pos rfl
theorem updV_other {F : Int -> Value} {k j : Int} {v : Value} (h : j ≠ k) : updV F k v j = F j := if_neg h
def encV (F : Int -> Value) (k : Int) : Lit × DataW Value := (.int .i64 k, .held (F k))
def Z5 (ks : List Int) (F : Int -> Value) : DataW Value := .map (ks.map (encV F))
theorem encV_filter (x : List Int) (F : Int -> Value) (k : Int) : (x.map (encV F)).filter (fun p => !p.1.sameKey (.int .i64 k)) = (outK x k).map (encV F) := by
 rw [List.filter_map]
 congr 1
 apply List.filter_congr
 intro p _
 simp [encV, Lit.sameKey, Bool.not_eq_eq_eq_not]
 by_cases e : p = k <;> simp [e]
theorem Xy (F : Int -> Value) (p : Int) : ∀ x : List Int, DataW.insert (encV F p) (x.map (encV F)) = (insK p x).map (encV F)
 | [] => rfl
 | y :: r => by
  simp only [List.map_cons, DataW.insert, insK]
  by_cases hlt : p < y
  ·have e : (encV F p).1.before (encV F y).1 = true := by simp [encV, Lit.before, hlt]
   rw [if_pos e, if_pos hlt]; rfl
  ·have e : ¬ (encV F p).1.before (encV F y).1 = true := by simp [encV, Lit.before, hlt]
   rw [if_neg e, if_neg hlt, Xy F p r]; rfl
theorem valsD_put (x : List Int) (F : Int -> Value) (k : Int) (v : Value) : (Z5 x F).put (.int .i64 k) (.held v) = Z5 (putK x k) (updV F k v) := by
 unfold Z5 DataW.put putK
 simp only
 rw [encV_filter]
 congr 1
 have e : (outK x k).map (encV F) = (outK x k).map (encV (updV F k v)) := by
  apply List.map_congr_left
  intro p hp
  simp only [encV, updV_other (mem_outK.1 hp).2]
 rw [e, <- Xy]
 congr 1
 simp only [encV, updV_same]
theorem valsD_has (x : List Int) (F : Int -> Value) (k : Int) : has (Z5 x F) (.int .i64 k) = decide (k ∈ x) := by
 unfold Z5
 rw [has_eq, List.any_map, Bool.eq_iff_iff]
 simp [encV, Lit.sameKey]
theorem valsD_size (x : List Int) (F : Int -> Value) : Maps.size (Z5 x F) = x.length := by simp [Z5, Maps.size]
theorem valsD_at {x : List Int} {F : Int -> Value} {k : Int} {z : DataW Value} (hk : k ∈ x) : (Z5 x F).atKey (.int .i64 k) z = .held (F k) := by
 unfold Z5 DataW.atKey
 simp only
 have : ∃ q ∈ x, q = k /\ (x.map (encV F)).find? (fun q => q.1.sameKey (.int .i64 k)) = some (encV F q) := by
  cases hf : (x.map (encV F)).find? (fun q => q.1.sameKey (.int .i64 k)) with
  | none =>
   have := List.find?_eq_none.1 hf (encV F k) (List.mem_map.2 ⟨k, hk, rfl⟩)
   simp [encV, Lit.sameKey] at this
  | some y =>
   have h1 := List.find?_some hf
   obtain ⟨q, hq, rfl⟩ := List.mem_map.1 (List.mem_of_find?_eq_some hf)
   refine ⟨q, hq, ?_, rfl⟩
   simpa [encV, Lit.sameKey] using h1
 obtain ⟨q, hq, rfl, e⟩ := this
 rw [e]
 rfl
theorem valsD_none {x : List Int} {F : Int -> Value} {k : Int} {z : DataW Value} (hk : ¬ k ∈ x) : (Z5 x F).atKey (.int .i64 k) z = z := by
 unfold Z5 DataW.atKey
 simp only
 have : (x.map (encV F)).find? (fun q => q.1.sameKey (.int .i64 k)) = none := by
  rw [List.find?_eq_none]
  intro y hy
  obtain ⟨q, hq, rfl⟩ := List.mem_map.1 hy
  intro hs
  have e : q = k := by simpa [encV, Lit.sameKey] using hs
  exact hk (e ▸ hq)
 rw [this]
def xQ (w : World) (b : Nat) (ks : List Int) (F : Int -> Value) : Prop := w.ownsMap Tryz.prog 3 XY b ks.length (Z5 ks F)
theorem xQ.turned {p : Nat -> Prop} {w w' : World} {b : Nat} {ks : List Int} {F : Int -> Value} (h : xQ w b ks F) (ht : Turned p w w') (hp : ¬ p b) : xQ w' b ks F := map_turned h ht hp
theorem xQ.below {w w' : World} {b : Nat} {ks : List Int} {F : Int -> Value} (h : xQ w b ks F) (hb : Below w.heap.size w w') : xQ w' b ks F := h.turned (p := fun _ => False) (.of_below hb) id
theorem xQ.made (w : World) (F : Int -> Value) : xQ (w.alloc (.map #[] 0)) w.heap.size [] F := World.ownsMap_made w _ _ _
theorem xQ.map {w : World} {b : Nat} {ks : List Int} {F : Int -> Value} (h : xQ w b ks F) : ∃ es c, w.heap[b]? = some (.map es c) := map_lt h
theorem xQ.lt {w : World} {b : Nat} {ks : List Int} {F : Int -> Value} (h : xQ w b ks F) : b < w.heap.size := by
 obtain ⟨es, c, hc⟩ := h.map
 exact (Array.getElem?_eq_some_iff.1 hc).1
theorem ZB {T e : TypeId} (hT : Tryz.prog.underlying T = some (.map 3 e)) {w : World} {b : Nat} {ks : List Int} {F : Int -> Value} {k : Int} (v : Value) (h : xQ w b ks F) (h1 : -9223372036854775808 <= k) (h2 : k <= 9223372036854775807) (hl : ks.length <= 1000000) :
  ∃ w', (Instr.mapUpdate T (.map (some b)) (.int .i64 k) v).run Tryz.prog w = .ok () w' /\ xQ w' b (putK ks k) (updV F k v) /\ Turned (fun k => k = b) w w' := by
 obtain ⟨w', hrun, hown, ht⟩ := World.ownsMap.store h keyed hT (by unfold maxLen; omega) (key_of h1 h2) (val := v) (d := .held v) (ps := []) rfl
 rw [valsD_put] at hown
 have hsz := map_size hown
 rw [valsD_size] at hsz
 exact ⟨w', hrun, hsz, Qt ht⟩
set_option maxRecDepth 100000 in
theorem has_run {T e : TypeId} (hT : Tryz.prog.underlying T = some (.map 3 e)) {w : World} {b : Nat} {ks : List Int} {F : Int -> Value} {k : Int} {z : Value} (hz : (zeroValue e).run Tryz.prog w = .ok z w) (h : xQ w b ks F) (h1 : -9223372036854775808 <= k) (h2 : k <= 9223372036854775807) :
  (Instr.lookup T (.map (some b)) (.int .i64 k) true).run Tryz.prog w = .ok (.tuple #[if k ∈ ks then F k else z, .bool (decide (k ∈ ks))]) w := by
 obtain ⟨v, ps, hrun, hv⟩ := World.ownsMap.look_ok h keyed hT hz (zd := .held z) (zp := []) rfl (key_of h1 h2)
 rw [valsD_has] at hrun
 simp only [XY, Option.some.injEq, Prod.mk.injEq] at hv
 by_cases hk : k ∈ ks
 ·rw [valsD_at hk] at hv
  injection hv.1 with e
  rw [hrun, e, if_pos hk]
 ·rw [valsD_none hk] at hv
  injection hv.1 with e
  rw [hrun, e, if_neg hk]
section
variable {w : World} {ops : Array Oper} {rest : List Oper} {o : Oper} {a : Act} {Q : Exit -> Act -> World -> Prop}
end
end Go.Proofs.YteebkolccbcehaaGreat
end

section
set_option linter.all false
namespace Go.Proofs.YteebkolccbcehaaGreat
open Go.ChangeShapes Go.WideShapes Go.ChangeAt Go.RowKit
structure Fld where
 t : Bool
 n : Int
 A : Option Addr
 m : Nat
 c : Nat
 bs : List UInt8
def FldAt (w : World) (g q : Nat) (f : Fld) : Prop :=
 w.cell? ⟨g, q, none⟩ = some (.bool f.t) /\ w.cell? ⟨g, q + 1, none⟩ = some (.int .i64 f.n) /\ w.cell? ⟨g, q + 2, none⟩ = some (.slice f.A f.m f.c) /\ f.bs.length = f.m /\ f.m <= f.c /\ f.c <= maxLen /\ Seen w f.A (zT f.bs) /\ -9223372036854775808 <= f.n /\ f.n <= 9223372036854775807
def Qr (w : World) (A : Option Addr) (fs : List Fld) : Prop :=
 fs = [] \/ ∃ g o, A = some ⟨g, o, none⟩ /\ ∀ i f, fs[i]? = some f -> FldAt w g (o + i * 3) f
theorem FldAt.below {w w' : World} {g q : Nat} {f : Fld} (h : FldAt w g q f) (hb : Below w.heap.size w w') : FldAt w' g q f := by
 obtain ⟨h1, h2, h3, h4, h5, h6, h7, h8, h9⟩ := h
 exact ⟨by rw [hb.cell (block_lt_of_cell h1)]; exact h1, by rw [hb.cell (block_lt_of_cell h2)]; exact h2, by rw [hb.cell (block_lt_of_cell h3)]; exact h3, h4, h5, h6, h7.below hb, h8, h9⟩
theorem Qr.below {w w' : World} {A : Option Addr} {fs : List Fld} (h : Qr w A fs) (hb : Below w.heap.size w w') : Qr w' A fs := by
 rcases h with h | ⟨g, o, hA, hc⟩
 ·exact .inl h
 ·exact .inr ⟨g, o, hA, fun i f hi => (hc i f hi).below hb⟩
theorem Qr.get {w : World} {A : Option Addr} {fs : List Fld} (h : Qr w A fs) {k : Nat} (hk : k < fs.length) : ∃ g o f, A = some ⟨g, o, none⟩ /\ fs[k]? = some f /\ fs.take (k + 1) = fs.take k ++ [f] /\ FldAt w g (o + k * 3) f := by
 rcases h with rfl | ⟨g, o, hA, hc⟩
 ·simp at hk
 ·exact ⟨g, o, fs[k], hA, List.getElem?_eq_getElem hk, List.take_succ_eq_append_getElem hk, hc k _ (List.getElem?_eq_getElem hk)⟩
theorem list_of {α : Type} {n : Nat} {p : Nat -> α -> Prop} (h : ∀ i, i < n -> ∃ x, p i x) : ∃ l : List α, l.length = n /\ ∀ i x, l[i]? = some x -> p i x := by
 induction n with
 | zero => exact ⟨[], rfl, fun i x e => by simp at e⟩
 | succ n ih =>
  obtain ⟨l, hl, hp⟩ := ih fun i hi => h i (by omega)
  obtain ⟨x, hx⟩ := h n (by omega)
  refine ⟨l ++ [x], by simp [hl], fun i y e => ?_⟩
  rw [List.getElem?_append] at e
  split at e
  ·exact hp i y e
  ·rename_i hi
   rw [List.getElem?_eq_some_iff] at e
   obtain ⟨h1, h2⟩ := e
   have : i - l.length = 0 := by simpa using h1
   have hin : i = n := by omega
   subst hin
   simp [this] at h2
   subst h2
   exact hx
section
variable {H : Type} {enc : TypeId × Value -> H} {P : Program}
end
end Go.Proofs.YteebkolccbcehaaGreat
end

section
set_option linter.all false
namespace Go.Proofs.YteebkolccbcehaaGreat
open Go.ChangeShapes Go.WideShapes Go.ChangeAt Go.RowKit
section
variable {H : Type} {enc : TypeId × Value -> H} {P : Program}
theorem Qu {W W' : World} {sp : Nat -> Bool} (hl : laidOutB P = true) : ∀ {ts : List TypeId} {vs : List Value} {ds : List (DataW H)} {ps : List MemPlace},
  DataW.TrodAll enc P W 0 (fun _ => true) true ts vs ds ps -> ts.all (fun t => P.readableRec t && decide (t < P.types.size)) = true -> (∀ x ∈ ps, W.sameAt W' x) -> (∀ x ∈ ps, sp x.block = true) ->
  DataW.TrodAll enc P W' 0 sp true ts vs ds ps := by
 intro ts
 induction ts with
 | nil =>
  intro vs ds ps h _ _ _
  obtain ⟨rfl, rfl, rfl⟩ := trodAll_nil h
  exact trodAll_mk0
 | cons t ts ih =>
  intro vs ds ps h hr hs hp
  obtain ⟨v, vs', d, ds', p, q, rfl, rfl, rfl, h0, r0⟩ := trodAll_cons h
  simp only [List.all_cons, Bool.and_eq_true, decide_eq_true_eq] at hr
  exact trodAll_cons_mk (WideElems.Trod_stays hl hr.1.1 hr.1.2 h0 (fun x hx => hs x (List.mem_append_left _ hx)) (fun x hx => hp x (List.mem_append_left _ hx)))
   (ih r0 hr.2 (fun x hx => hs x (List.mem_append_right _ hx)) (fun x hx => hp x (List.mem_append_right _ hx)))
theorem law_post {f : Func} {s : ChangeSpec} {apart fresh handsOn again : Bool} {W W' : World} {args : Array Value} {ds gs : List (DataW H)} {before : List MemPlace} {tb : TypeId}
  (hW : DataW.Whole enc P f.params.toList s.vars apart W args.toList ds gs before) (hvars : s.vars = []) (hl : laidOutB P = true)
  (hr : f.params.toList.all (fun t => P.readableRec t && decide (t < P.types.size)) = true) (hres : f.resultTypes = #[tb]) (hbool : P.underlying tb = some .bool)
  (hs1 : (s.fn H (ds ++ gs)).results = [.lit (.bool true)]) (hs2 : (s.fn H (ds ++ gs)).args = ds) (hs3 : (s.fn H (ds ++ gs)).vars = []) (hb : Below W.heap.size W W') :
  s.post enc P f apart fresh handsOn again W args (.bool true) W' := by
 have hlt : ∀ x ∈ before, x.block < W.heap.size := fun x hx => by simpa using hW.lt x hx
 have hW' := hW
 obtain ⟨p, q, hA, hV, rfl, hfz, hnd⟩ := hW'
 rw [hvars] at hV
 obtain ⟨rfl, rfl⟩ := trodVars_none hV
 simp only [List.append_nil] at hW hlt hfz hnd hs1 hs2 hs3
 have hsame : ∀ x ∈ p, W.sameAt W' x := fun x hx => hb.same (hlt x hx)
 have hargs : ∀ sp : Nat -> Bool, (∀ x ∈ p, sp x.block = true) -> DataW.TrodAll enc P W' 0 sp true f.params.toList args.toList (s.fn H (ds ++ [])).args p := fun sp hsp => by
  rw [List.append_nil, hs2]
  exact Qu hl hA hr hsame hsp
 have hvr : ∀ sp : Nat -> Bool, DataW.TrodVars enc P W' sp s.vars (s.fn H (ds ++ [])).vars [] := fun sp => by
  rw [List.append_nil, hs3, hvars]
  rfl
 have hre : ∀ (b : Nat) (sp : Nat -> Bool) (hd : Bool), DataW.TrodAll enc P W' b sp hd f.resultTypes.toList ((Value.bool true).resultList f.resultTypes.size) (s.fn H (ds ++ [])).results [] := fun b sp hd => by
  rw [List.append_nil, hs1, hres]
  exact trodAll_mk1 (shut_bool hbool true)
 have hold : ∀ x ∈ p, (fun b => decide (b < W.heap.size)) x.block = true := fun x hx => by simpa using hlt x hx
 refine ⟨ds, [], p, [], p, [], hW, hre _ _ _, hargs _ hold, hvr _, World.keptBut_mono (fun x hx => ⟨hx, Or.inr (by simpa using hx)⟩) (hb.frame (· ∈ p)), fun _ => ?_⟩
 refine ⟨?_, _, _, ([] ++ p) ++ [], ⟨[] ++ p, [], trodAll_append (hargs _ (fun _ _ => rfl)) (hre _ _ _), hvr _, rfl, ?_, ?_⟩, ?_⟩
 ·exact ok_one hres rfl (okWide_bool_mk hbool true)
 ·intro b off hp
  have hin : MemPlace.cell b off ∈ p := by simpa using hp
  rw [hb.frozen (hlt _ hin)]
  exact hfz b off hin
 ·intro ha
  simpa using hnd ha
 ·intro x hx _
  simpa using hx
theorem open_bytes {W : World} {base : Nat} {v : Value} {d : DataW H} {p : List MemPlace} {tb te : TypeId} (ht : P.underlying tb = some (.slice te)) (he : P.underlying te = some (.int .u8)) (hc : P.cellsOf te = 1)
  (hval : Value.okWide P W .any base tb v) (h : DataW.Trod enc P W 0 (fun _ => true) true tb v d p) :
  ∃ A n c, ∃ bs : List UInt8, v = .slice A n c /\ bs.length = n /\ n <= c /\ c <= maxLen /\ Seen W A (zT bs) := by
 obtain ⟨a1, len, cap, rfl⟩ := okWide_slice ht hval
 obtain ⟨fuel, hf⟩ := h
 rcases open_ints ht he hc hf with ⟨hcs, hx⟩ | ⟨a, len', cap', zs, hcs, _, hl, hm, hz, hx, hcell, hwz⟩
 ·simp [Value.cells] at hcs
  obtain ⟨rfl, rfl, rfl⟩ := hcs
  exact ⟨none, 0, 0, [], rfl, rfl, Nat.le_refl _, Nat.zero_le _, .inl rfl⟩
 ·simp [Value.cells] at hcs
  obtain ⟨rfl, rfl, rfl⟩ := hcs
  simp only [if_true] at hz
  refine ⟨some a, len, cap, (zs.take len).map fun z => UInt8.ofNat z.toNat, rfl, by simp; omega, hl, hm, ?_⟩
  by_cases h0 : len = 0
  ·subst h0
   exact .inl (by simp [zT])
  ·obtain ⟨g, o, spot⟩ := a
   have hspot : spot = none := by simpa [Addr.add] using World.cell?_spot (hcell 0 (by omega))
   subst hspot
   refine .inr ⟨g, o, rfl, fun j v hv => ?_⟩
   simp only [zT, List.map_map, List.getElem?_map, Option.map_eq_some_iff] at hv
   obtain ⟨z, hzj, rfl⟩ := hv
   rw [List.getElem?_take] at hzj
   split at hzj
   ·rename_i hj
    have h1 := hcell j (by omega)
    rw [Addr.add_lit] at h1
    rw [h1]
    have e : zs.getD j 0 = z := by rw [List.getD_eq_getElem?_getD, hzj]; rfl
    have hb := bounds_u8 (hwz z (List.mem_of_getElem? hzj))
    rw [e]
    simp only [Function.comp, XF, UInt8.toNat_ofNat']
    congr 2
    omega
   ·cases hzj
end
end Go.Proofs.YteebkolccbcehaaGreat
end

section
set_option linter.all false
namespace Go.Proofs.YteebkolccbcehaaGreat
open Go.ChangeShapes Go.WideShapes Go.ChangeAt Go.RowKit
def zo (l : List Int) : List Value := l.map fun x => .int .i64 x
theorem zz (l : List Int) : (zo l).length = l.length := by simp [zo]
theorem zW (a b : List Int) : zo (a ++ b) = zo a ++ zo b := by simp [zo]
theorem yf (l : List Int) : ∀ u ∈ zo l, u.oneCell' = true := by
 intro u hu
 simp only [zo, List.mem_map] at hu
 obtain ⟨x, _, rfl⟩ := hu
 rfl
theorem Seen.num {w : World} {A : Option Addr} {ns : List Int} (h : Seen w A (zo ns)) {j : Nat} (hj : j < ns.length) :
  ∃ g o x, A = some ⟨g, o, none⟩ /\ ns[j]? = some x /\ w.cell? ⟨g, o + j, none⟩ = some (.int .i64 x) := by
 obtain ⟨g, o, hA, hc⟩ := h.at_ (j := j) (by simpa [zo] using hj)
 exact ⟨g, o, ns[j], hA, List.getElem?_eq_getElem hj, by simpa [zo] using hc⟩
def In64 (x : Int) : Prop := -9223372036854775808 <= x /\ x <= 9223372036854775807
section
variable {H : Type} {enc : TypeId × Value -> H} {P : Program}
end
end Go.Proofs.YteebkolccbcehaaGreat
end
