/-
  Words of these proofs for slices in memory: a slice that reads as a list of cells (nil let in), what a call hands back that it made itself, and how both outlast further calls. They speak of no program of ours. No condition but what each lemma names.
-/
import Derived.WalkKit
import Derived.ProofKit
import Derived.OpenShut
import Derived.Laws.CopyOwn
import Derived.Maps.AppendAt
import Derived.Deep.AppendLies
import Derived.Lib.Hide
import Derived.Deep.Draws
namespace Go.Proofs.Ytkjfaijdmpnjkaa
open Go.ChangeShapes Go.WideShapes Go.ChangeAt Go.RowKit
set_option linter.unusedVariables false

/-- a byte as a cell holds it -/
def byteV (x : UInt8) : Value := .int .u8 (x.toNat : Int)
def bytesV (bs : List UInt8) : List Value := bs.map byteV

/-- the slice that begins at A reads as xs -/
def Seen (w : World) (A : Option Addr) (xs : List Value) : Prop :=
  xs = [] ∨ ∃ g o, A = some ⟨g, o, none⟩ ∧ ∀ (j : Nat) v, xs[j]? = some v → w.cell? ⟨g, o + j, none⟩ = some v

theorem Seen.nil (w : World) (A : Option Addr) : Seen w A [] := .inl rfl

theorem Seen.at_ {w : World} {A : Option Addr} {xs : List Value} (h : Seen w A xs) {j : Nat} (hj : j < xs.length) :
    ∃ g o, A = some ⟨g, o, none⟩ ∧ w.cell? ⟨g, o + j, none⟩ = some xs[j] := by
  rcases h with rfl | ⟨g, o, hA, hc⟩
  · simp at hj
  · exact ⟨g, o, hA, hc j _ (List.getElem?_eq_getElem hj)⟩

theorem Seen.byte {w : World} {A : Option Addr} {bs : List UInt8} (h : Seen w A (bytesV bs)) {j : Nat} (hj : j < bs.length) :
    ∃ g o, A = some ⟨g, o, none⟩ ∧ w.cell? ⟨g, o + j, none⟩ = some (.int .u8 ((bs[j].toNat : Nat) : Int)) := by
  obtain ⟨g, o, hA, hc⟩ := h.at_ (j := j) (by simpa [bytesV] using hj)
  exact ⟨g, o, hA, by simpa [bytesV, byteV] using hc⟩

/-- the byte at j, under a name -/
theorem Seen.byteAt {w : World} {A : Option Addr} {bs : List UInt8} (h : Seen w A (bytesV bs)) {j : Nat} (hj : j < bs.length) :
    ∃ g o x, A = some ⟨g, o, none⟩ ∧ bs[j]? = some x ∧ bs.take (j + 1) = bs.take j ++ [x] ∧ w.cell? ⟨g, o + j, none⟩ = some (.int .u8 ((x.toNat : Nat) : Int)) := by
  obtain ⟨g, o, hA, hc⟩ := h.byte hj
  exact ⟨g, o, bs[j], hA, List.getElem?_eq_getElem hj, List.take_succ_eq_append_getElem hj, hc⟩

theorem Seen.keep {w w' : World} {A : Option Addr} {xs : List Value} (h : Seen w A xs) (hk : ∀ p : Addr, p.block < w.heap.size → w'.cell? p = w.cell? p) : Seen w' A xs := by
  rcases h with rfl | ⟨g, o, hA, hc⟩
  · exact .inl rfl
  · refine .inr ⟨g, o, hA, fun j v hv => ?_⟩
    have h1 := hc j v hv
    rw [hk _ (block_lt_of_cell h1)]
    exact h1
theorem Seen.below {w w' : World} {A : Option Addr} {xs : List Value} (h : Seen w A xs) (hb : Below w.heap.size w w') : Seen w' A xs := h.keep fun _ hp => hb.cell hp
theorem Seen.alloc {w : World} {A : Option Addr} {xs : List Value} (h : Seen w A xs) (o : Obj) : Seen (w.alloc o) A xs := h.below ((Below.refl _ _).alloc (Nat.le_refl _) o)

theorem Seen.take {w : World} {A : Option Addr} {xs : List Value} (h : Seen w A xs) (k : Nat) : Seen w A (xs.take k) := by
  rcases h with rfl | ⟨g, o, hA, hc⟩
  · simp [Seen]
  · refine .inr ⟨g, o, hA, fun j v hv => ?_⟩
    rw [List.getElem?_take] at hv
    split at hv
    · exact hc j v hv
    · cases hv
/-- a cut from k on: the model lets the address stand where k is the capacity -/
theorem Seen.drop {w : World} {A : Option Addr} {xs : List Value} (h : Seen w A xs) {k cap : Nat} (hc : xs.length ≤ cap) :
    Seen w (if cap = k then A else A.map (·.add k)) (xs.drop k) := by
  by_cases hk : xs.length ≤ k
  · rw [List.drop_eq_nil_of_le hk]; exact .inl rfl
  · rw [if_neg (by omega)]
    rcases h with rfl | ⟨g, o, rfl, hc⟩
    · simp at hk
    · refine .inr ⟨g, o + k, by simp [Addr.add_lit], fun j v hv => ?_⟩
      rw [List.getElem?_drop] at hv
      have := hc (k + j) v hv
      rwa [show o + k + j = o + (k + j) by omega]

theorem Seen.of_own {w : World} {base : Nat} {e : TypeId} {A : Option Addr} {n c : Nat} {xs : List Value} (h : w.ownsRow base e 1 (.slice A n c) n xs) : Seen w A xs := by
  by_cases hx : xs = []
  · exact .inl hx
  · have hn : 0 < n := by
      have := h.1
      have : 0 < xs.length := List.length_pos_iff.2 hx
      omega
    obtain ⟨g, cap, hv, _, hlt⟩ := h.form hn
    injection hv with hA
    subst hA
    refine .inr ⟨g, 0, rfl, fun j v hv => ?_⟩
    have := h.cells (g := g) rfl j v hv
    rwa [Addr.add_lit] at this

/-- what a call hands back that it made itself: a slice over a row of its own -/
def OwnRet (e : TypeId) (xs : List Value) (w : World) (en : Ending) (w' : World) : Prop :=
  ∃ A c, en = .returned (.slice A xs.length c) ∧ w'.ownsRow w.heap.size e 1 (.slice A xs.length c) xs.length xs ∧ Below w.heap.size w w'

theorem grown_of_below {w w' : World} (h : Below w.heap.size w w') : w.grownBy w' none := ⟨h.os, h.tape, h.output, h.size, fun k hk _ => h.block k hk⟩
theorem own_below {w w' : World} {base : Nat} {e : TypeId} {v : Value} {n : Nat} {xs : List Value} (h : w.ownsRow base e 1 v n xs) (hb : Below w.heap.size w w') : w'.ownsRow base e 1 v n xs := by
  refine ⟨h.1, ?_⟩
  rcases h.2 with h2 | ⟨g, cap, cur, hv, hg, hh, r⟩
  · exact .inl h2
  · exact .inr ⟨g, cap, cur, hv, hg, by rw [hb.block g (Array.getElem?_eq_some_iff.1 hh).1]; exact hh, r⟩

theorem own_form {w : World} {base : Nat} {e : TypeId} {v : Value} {n : Nat} {xs : List Value} (h : w.ownsRow base e 1 v n xs) : ∃ A c, v = .slice A n c := by
  rcases h.2 with ⟨rfl, rfl⟩ | ⟨g, cap, cur, rfl, _⟩
  · exact ⟨_, _, rfl⟩
  · exact ⟨_, _, rfl⟩

section
variable {P : Program} {w : World}

/-- append onto a row of the call's own, from whatever slice reads as 'news' -/
theorem run_app (t ty e : TypeId) (z : Value) (bytes : Nat) (ht : P.underlying t = some (.slice e)) (hinfo : (P.info? e).map (fun i => (i.zero, i.size, i.bytes)) = some (some z, 1, bytes)) (hz1 : z.cells.size = 1)
    (base : Nat) (A : Option Addr) (n c : Nat) (xs : List Value) (hown : w.ownsRow base e 1 (.slice A n c) n xs) (A2 : Option Addr) (m c2 : Nat) (news : List Value) (hm : news.length = m) (hsee : Seen w A2 news)
    (h1 : ∀ u ∈ news, u.oneCell' = true) (h63 : n + m ≤ maxLen) (hbytes : (n + m) * bytes ≤ 140737488355328) (hbase : base ≤ w.heap.size) :
    ∃ A' c' w', (Builtin.append_ #[t, t] ty #[.slice A n c, .slice A2 m c2]).run P w = .ok (.slice A' (n + m) c') w' ∧ w'.ownsRow base e 1 (.slice A' (n + m) c') (n + m) (xs ++ news) ∧ Below base w w' := by
  obtain ⟨i, hi, hz, hs, hb⟩ := info_parts hinfo
  cases A2 with
  | none =>
    have hn : news = [] := by
      rcases hsee with h | ⟨g, o, hA, _⟩
      · exact h
      · cases hA
    subst hn
    subst hm
    refine ⟨A, c, w, ?_, by simpa using hown, Below.refl _ _⟩
    rcases hown.2 with ⟨hv, hn⟩ | ⟨g, cap, cur, hv, _, _, hnc, _⟩
    · injection hv with h1 h2 h3
      subst h1; subst h2; subst h3
      simp [Builtin.append_, run_underlying ht, sizeOf, typeInfo, hi, Builtin.lenOf, Builtin.firstCells]
    · injection hv with h1 h2 h3
      subst h1; subst h3
      simp [Builtin.append_, run_underlying ht, sizeOf, typeInfo, hi, Builtin.lenOf, Builtin.firstCells, hnc, storeCells]
  | some ad =>
    have hcells : ∀ (j : Nat) u, news[j]? = some u → w.cell? (ad.add j) = some u := by
      intro j u hu
      rcases hsee with rfl | ⟨g, o, hA, hc⟩
      · simp at hu
      · injection hA with hA
        subst hA
        rw [Addr.add_lit]
        exact hc j u hu
    obtain ⟨v', w', hrun, hown', hg, _, hblk⟩ := run_append_own_at (P := P) w base t ty e i z 1 bytes ht hi hz hs hb hz1 (by omega) _ n xs hown ad m c2 news (by omega) hcells h1 h63 hbytes hbase
    obtain ⟨A', c', rfl⟩ := own_form hown'
    exact ⟨A', c', w', hrun, hown', (Below.refl _ _).grown hg hbase fun k hk => (hown.lt k hk).1⟩

theorem wpList_app {ops : Array Oper} {rest : List Oper} {o : Oper} {a : Act} {Q : Exit → Act → World → Prop} (hgd : o.guard = none) (s x : Operand) (t : TypeId)
    (ho : o.op = .call { callee := .builtin .append, args := #[s, x], argTypes := #[t, t] })
    (e : TypeId) (z : Value) (bytes : Nat) (ht : P.underlying t = some (.slice e)) (hinfo : (P.info? e).map (fun i => (i.zero, i.size, i.bytes)) = some (some z, 1, bytes)) (hz1 : z.cells.size = 1)
    (base : Nat) (A : Option Addr) (n c : Nat) (xs : List Value) (hs : a.eval s = .slice A n c) (hown : w.ownsRow base e 1 (.slice A n c) n xs)
    (A2 : Option Addr) (m c2 : Nat) (news : List Value) (hx : a.eval x = .slice A2 m c2) (hm : news.length = m) (hsee : Seen w A2 news) (h1 : ∀ u ∈ news, u.oneCell' = true)
    (h63 : n + m ≤ maxLen) (hbytes : (n + m) * bytes ≤ 140737488355328) (hbase : base ≤ w.heap.size)
    (h : ∀ A' c' w', w'.ownsRow base e 1 (.slice A' (n + m) c') (n + m) (xs ++ news) → Below base w w' → wpList P ops Q rest (a.put o.dst (.slice A' (n + m) c')) w') : wpList P ops Q (o :: rest) a w :=
  wpList_plain hgd fun K hK => by
    obtain ⟨A', c', w', hrun, h2, h3⟩ := run_app (P := P) t o.type e z bytes ht hinfo hz1 base A n c xs hown A2 m c2 news hm hsee h1 h63 hbytes hbase
    unfold Oper.wp execOp
    simp only [ho, resolve, invoke, builtin, Sem.run_bind, Sem.run_pure, Result.andThen_ok, List.map_toArray, List.map_cons, List.map_nil, hs, hx, hrun]
    exact hK _ _ (h A' c' w' h2 h3)
end

theorem bytes_one (bs : List UInt8) : ∀ u ∈ bytesV bs, u.oneCell' = true := by
  intro u hu
  simp only [bytesV, List.mem_map] at hu
  obtain ⟨x, _, rfl⟩ := hu
  rfl
theorem bytes_length (bs : List UInt8) : (bytesV bs).length = bs.length := by simp [bytesV]
theorem bytes_append (a b : List UInt8) : bytesV (a ++ b) = bytesV a ++ bytesV b := by simp [bytesV]
/-- a slice over a block that was just laid -/
theorem Seen.of_cells {w : World} {g : Nat} {t : TypeId} {cs : Array Value} {fr : Nat × Nat} (h : w.heap[g]? = some (.cells cs t fr)) : Seen w (some ⟨g, 0, none⟩) cs.toList :=
  .inr ⟨g, 0, rfl, fun j v hv => by rw [cell_of_row w g _ cs t fr h, Nat.zero_add]; simpa using hv⟩

/-! ### further words -/
theorem own_cap {w : World} {base n c : Nat} {A : Option Addr} {e : TypeId} {xs : List Value} (h : w.ownsRow base e 1 (.slice A n c) n xs) (hn : 0 < n) : n ≤ c ∧ c ≤ maxLen := by
  rcases h.2 with ⟨hv, _⟩ | ⟨g', cap, cur, hv, _, _, h1, h2, _⟩
  · injection hv with _ h2 _
    omega
  · injection hv with _ _ h3
    subst h3
    exact ⟨h1, h2⟩
theorem seen_take {w : World} {A : Option Addr} {bs : List UInt8} (n : Nat) (h : Seen w A (bytesV bs)) : Seen w A (bytesV (bs.take n)) := by
  have := h.take n
  rwa [bytesV, ← List.map_take] at this
theorem seen_drop {w : World} {A : Option Addr} {bs : List UInt8} {K c : Nat} (h : Seen w A (bytesV bs)) (hc : bs.length ≤ c) : Seen w (if c = K then A else A.map (·.add K)) (bytesV (bs.drop K)) := by
  have := h.drop (k := K) (cap := c) (by rw [bytes_length]; exact hc)
  rwa [bytesV, ← List.map_drop] at this
theorem seen_drop_n {w : World} {A : Option Addr} {bs : List UInt8} {K c : Nat} (hk : ¬ c = K) (h : Seen w A (bytesV bs)) (hc : bs.length ≤ c) : Seen w (A.map (·.add K)) (bytesV (bs.drop K)) := by
  have := seen_drop (K := K) h hc
  rwa [if_neg hk] at this
theorem seen_drop_c {w : World} {A : Option Addr} {bs : List UInt8} {c : Nat} (h : Seen w A (bytesV bs)) (hc : bs.length ≤ c) : Seen w A (bytesV (bs.drop c)) := by
  have := seen_drop (K := c) h hc
  rwa [if_pos rfl] at this
theorem below_drewN {B : Nat} {a w : World} (h : Below B a w) (n : Nat) : Below B a (w.drewN n) := ⟨h.os, h.tape, h.output, h.size, h.block⟩
theorem two_cells (w : World) (u v : Value) (t : TypeId) : (w.alloc (.cells #[u, v] t)).drew.cell? ⟨w.heap.size, 0, none⟩ = some u ∧ (w.alloc (.cells #[u, v] t)).drew.cell? ⟨w.heap.size, 1, none⟩ = some v :=
  ⟨cell_of_row _ _ 0 _ _ (0, 0) (heap_alloc_new w _), cell_of_row _ _ 1 _ _ (0, 0) (heap_alloc_new w _)⟩
theorem new_one (W : World) (v : Value) (t : TypeId) {m : Nat} (h : W.heap.size = m) : (W.alloc (.cells #[v] t)).cell? ⟨m, 0, none⟩ = some v := by
  subst h
  exact cell_of_row _ _ 0 _ _ (0, 0) (heap_alloc_new W _)
theorem new_two (W : World) (u v : Value) (t : TypeId) : (W.alloc (.cells #[u, v] t)).cell? ⟨W.heap.size, 0, none⟩ = some u ∧ (W.alloc (.cells #[u, v] t)).cell? ⟨W.heap.size, 1, none⟩ = some v :=
  ⟨cell_of_row _ _ 0 _ _ (0, 0) (heap_alloc_new W _), cell_of_row _ _ 1 _ _ (0, 0) (heap_alloc_new W _)⟩
end Go.Proofs.Ytkjfaijdmpnjkaa
