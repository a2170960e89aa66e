/-
  Pairs of a key and its bytes in memory (PairsAt), what keeps them, and contracts of dotterelref06's Out, At, Put, Same. Conditions: what each names.
-/
import Derived.Test.YtjekcaoonaniaaaGreatVauV
import Derived.Test.YtjekcaoonaniaaaGreatSame
import Derived.Maps.AppendAt
import Derived.BigRegion
import Derived.BigQuiet
namespace Go.Proofs.YtjekcaoonaniaaaGreat
open Go.ChangeShapes Go.WideShapes Go.ChangeAt Go.RowKit Go.Maps
set_option linter.unusedVariables false

/-! ### what may turn, pairs among it -/
def MayP (B : Nat) (w : World) (k : Nat) : Prop := B ≤ k ∧ ((∃ cs T fr, w.heap[k]? = some (.cells cs T fr) ∧ (TouchT T ∨ T = 67)) ∨ ∃ es c, w.heap[k]? = some (.map es c))
def KeptP (B : Nat) (w w' : World) : Prop := Turned (MayP B w) w w'
theorem MayV.pair {B : Nat} {w : World} {k : Nat} (h : MayV B w k) : MayP B w k := by
  obtain ⟨h1, ⟨cs, T, fr, h2, h3⟩ | h2⟩ := h
  · exact ⟨h1, .inl ⟨cs, T, fr, h2, .inl h3⟩⟩
  · exact ⟨h1, .inr h2⟩
theorem KeptV.pair {B : Nat} {w w' : World} (h : KeptV B w w') : KeptP B w w' := h.mono fun _ _ e => e.pair
theorem KeptP.refl (B : Nat) (w : World) : KeptP B w w := Turned.refl _ _
theorem KeptP.of_below {B : Nat} {w w' : World} (h : Below w.heap.size w w') : KeptP B w w' := Turned.of_below h
theorem KeptP.trans {B : Nat} {a b c : World} (h : KeptP B a b) (k : KeptP B b c) : KeptP B a c := by
  refine Turned.trans h k (fun _ e => e) fun i hi e => ?_
  by_cases hm : MayP B a i
  · exact hm
  · have hb := h.block i hi hm
    obtain ⟨e1, e2⟩ := e
    rw [hb] at e2
    exact ⟨e1, e2⟩
theorem KeptP.own {B B' : Nat} {w w' : World} (h : KeptP B w w') {e : TypeId} {n z : Nat} {v : Value} {xs : List Value} (ho : w.ownsRow B' e z v n xs) (he : ¬ TouchT e) (hp : e ≠ 67) : w'.ownsRow B' e z v n xs :=
  own65_turned h ho fun k hk hm => by
    obtain ⟨cs, hb⟩ := row_block ho hk
    rcases hm.2 with ⟨cs', T, fr, hb', hT⟩ | ⟨es, c, hb'⟩
    · rw [hb] at hb'
      injection hb' with hb'
      injection hb' with _ e2
      subst e2
      rcases hT with hT | hT
      · exact he hT
      · exact hp hT
    · rw [hb] at hb'; cases hb'
/-- an append to a row of pairs -/
theorem KeptP.grown {B B' n : Nat} {w w' : World} {v : Value} {xs : List Value} (ho : w.ownsRow B' 67 2 v n xs) (hB : B ≤ B') (hg : w.grownBy w' v.ownBlock) : KeptP B w w' :=
  (Turned.of_grown hg (p := fun k => v.ownBlock = some k) fun _ e => e).mono fun k _ hk => by
    obtain ⟨cs, hb⟩ := row_block ho hk
    have := (ho.lt k hk).1
    exact ⟨by omega, .inl ⟨cs, _, _, hb, .inr rfl⟩⟩

/-! ### bytes that outlast it -/
def SeenS (w : World) (B : Nat) (A : Option Addr) (bs : List UInt8) : Prop := bs = [] ∨ ∃ g o, A = some ⟨g, o, none⟩ ∧ g < w.heap.size ∧ ¬ MayP B w g ∧ Seen w A (bytesV bs)
theorem SeenS.seen {w : World} {B : Nat} {A : Option Addr} {bs : List UInt8} (h : SeenS w B A bs) : Seen w A (bytesV bs) := by
  rcases h with rfl | ⟨_, _, _, _, _, h⟩
  · exact .inl rfl
  · exact h
theorem SeenS.kept {w w' : World} {B : Nat} {A : Option Addr} {bs : List UInt8} (h : SeenS w B A bs) (hk : KeptP B w w') : SeenS w' B A bs := by
  rcases h with h | ⟨g, o, rfl, hg, hm, hs⟩
  · exact .inl h
  · have hb := hk.block g hg hm
    refine .inr ⟨g, o, rfl, Nat.lt_of_lt_of_le hg hk.size, fun e => hm ?_, Turned.seen hk hs fun g' o' e => ?_⟩
    · obtain ⟨e1, e2⟩ := e
      rw [hb] at e2
      exact ⟨e1, e2⟩
    · injection e with e
      injection e with e
      subst e
      exact hm
theorem SeenS.below {w w' : World} {B : Nat} {A : Option Addr} {bs : List UInt8} (h : SeenS w B A bs) (hb : Below w.heap.size w w') : SeenS w' B A bs := h.kept (.of_below hb)
theorem SeenS.own {w : World} {B B' n c : Nat} {A : Option Addr} {bs : List UInt8} (h : w.ownsRow B' 5 1 (.slice A n c) n (bytesV bs)) : SeenS w B A bs := by
  have hs := Seen.of_own h
  by_cases hb : bs = []
  · exact .inl hb
  · have hn : 0 < n := by
      have := h.1
      rw [bytes_length] at this
      have : bs.length ≠ 0 := fun e => hb (List.length_eq_zero_iff.1 e)
      omega
    obtain ⟨g, cc, hf, hg1, hg2⟩ := h.form hn
    injection hf with hf1 _ _
    subst hf1
    refine .inr ⟨g, 0, rfl, hg2, fun hm => ?_, hs⟩
    obtain ⟨cs, hk⟩ := row_block h (k := g) rfl
    rcases hm.2 with ⟨cs', T, fr, hb', hT⟩ | ⟨es, c', hb'⟩
    · rw [hk] at hb'
      injection hb' with hb'
      injection hb' with _ e2
      subst e2
      rcases hT with (hT | hT | hT | hT | hT | hT) | hT <;> exact absurd hT (by decide)
    · rw [hk] at hb'; cases hb'
/-- what lies below the base -/
theorem SeenS.old {w : World} {B : Nat} {A : Option Addr} {bs : List UInt8} (h : Seen w A (bytesV bs)) (hB : ∀ g o, A = some ⟨g, o, none⟩ → g < B) : SeenS w B A bs := by
  rcases h with h | ⟨g, o, rfl, hc⟩
  · exact .inl (by simpa [bytesV] using h)
  · cases bs with
    | nil => exact .inl rfl
    | cons b r =>
      refine .inr ⟨g, o, rfl, block_lt_of_cell (hc 0 _ rfl), fun hm => ?_, .inr ⟨g, o, rfl, hc⟩⟩
      have := hB g o rfl
      have := hm.1
      omega

/-! ### pairs -/
abbrev PairE := Int × Option Addr × Nat × Nat
def pairV (p : PairE) : List Value := [.int .i64 p.1, .slice p.2.1 p.2.2.1 p.2.2.2]
def pairsV (L : List PairE) : List Value := L.flatMap pairV
theorem pairsV_snoc (L : List PairE) (p : PairE) : pairsV (L ++ [p]) = pairsV L ++ pairV p := by simp [pairsV]
theorem pairsV_length (L : List PairE) : (pairsV L).length = L.length * 2 := by
  induction L with
  | nil => rfl
  | cons p r ih =>
    have : (pairsV (p :: r)).length = 2 + (pairsV r).length := by simp [pairsV, pairV]; omega
    rw [this, ih, List.length_cons]; omega
theorem pairsV_get : ∀ {L : List PairE} {i : Nat} {p : PairE}, L[i]? = some p → (pairsV L)[i * 2]? = some (.int .i64 p.1) ∧ (pairsV L)[i * 2 + 1]? = some (.slice p.2.1 p.2.2.1 p.2.2.2)
  | [], _, _, h => by simp at h
  | q :: r, 0, p, h => by
    simp at h
    subst h
    exact ⟨rfl, rfl⟩
  | q :: r, i + 1, p, h => by
    have := pairsV_get (L := r) (i := i) (p := p) (by simpa using h)
    have e1 : (i + 1) * 2 = (i * 2) + 1 + 1 := by omega
    rw [e1]
    exact this
theorem pairsV_one (L : List PairE) : ∀ u ∈ pairsV L, u.oneCell' = true := by
  intro u hu
  simp only [pairsV, List.mem_flatMap, pairV, List.mem_cons, List.not_mem_nil, or_false] at hu
  obtain ⟨p, _, rfl | rfl⟩ := hu <;> rfl

def ElemAt (w : World) (B : Nat) (p : PairE) (q : Int × List UInt8) : Prop := p.1 = q.1 ∧ q.2.length = p.2.2.1 ∧ p.2.2.1 ≤ 10000 ∧ SeenS w B p.2.1 q.2
def Elems (w : World) (B : Nat) (L : List PairE) (x : Vals) : Prop := List.length L = List.length x ∧ ∀ (i : Nat) (p : PairE) (q : Int × List UInt8), L[i]? = some p → x[i]? = some q → ElemAt w B p q
theorem ElemAt.kept {w w' : World} {B : Nat} {p : PairE} {q : Int × List UInt8} (h : ElemAt w B p q) (hk : KeptP B w w') : ElemAt w' B p q := ⟨h.1, h.2.1, h.2.2.1, h.2.2.2.kept hk⟩
theorem Elems.kept {w w' : World} {B : Nat} {L : List PairE} {x : Vals} (h : Elems w B L x) (hk : KeptP B w w') : Elems w' B L x := ⟨h.1, fun i p q e1 e2 => (h.2 i p q e1 e2).kept hk⟩
theorem Elems.nil (w : World) (B : Nat) : Elems w B [] [] := ⟨rfl, fun i p q e => by simp at e⟩
theorem Elems.snoc {w : World} {B : Nat} {L : List PairE} {x : Vals} {p : PairE} {q : Int × List UInt8} (h : Elems w B L x) (hp : ElemAt w B p q) : Elems w B (L ++ [p]) (x ++ [q]) := by
  refine ⟨by simp [h.1], fun i p' q' e1 e2 => ?_⟩
  by_cases hi : i < L.length
  · rw [List.getElem?_append_left hi] at e1
    rw [List.getElem?_append_left (by rw [← h.1]; exact hi)] at e2
    exact h.2 i p' q' e1 e2
  · have hl := (List.getElem?_eq_some_iff.1 e1).1
    rw [List.length_append, List.length_singleton] at hl
    have hi2 : i = L.length := by omega
    subst hi2
    rw [List.getElem?_concat_length] at e1
    rw [h.1, List.getElem?_concat_length] at e2
    injection e1 with e1; injection e2 with e2
    subst e1; subst e2
    exact hp
theorem Elems.get {w : World} {B : Nat} {L : List PairE} {x : Vals} (h : Elems w B L x) {k : Nat} (hk : k < x.length) : ∃ p q, L[k]? = some p ∧ x[k]? = some q ∧ ElemAt w B p q ∧ x.take (k + 1) = x.take k ++ [q] :=
  by
  have hl : k < List.length L := by rw [h.1]; exact hk
  exact ⟨L[k], x[k], List.getElem?_eq_getElem hl, List.getElem?_eq_getElem hk, h.2 k _ _ (List.getElem?_eq_getElem hl) (List.getElem?_eq_getElem hk), List.take_succ_eq_append_getElem hk⟩

/-- a slice of pairs of its own row -/
def PairsAt (w : World) (B base : Nat) (A : Option Addr) (n c : Nat) (x : Vals) : Prop := x.length = n ∧ ∃ L, Elems w B L x ∧ w.ownsRow base 67 2 (.slice A n c) n (pairsV L)
theorem PairsAt.nil (w : World) (B base : Nat) : PairsAt w B base none 0 0 [] := ⟨rfl, [], Elems.nil w B, World.ownsRow_nil _ _ _ _⟩
theorem pair_touch : ¬ TouchT 67 := by
  rintro (h | h | h | h | h | h) <;> exact absurd h (by decide)
theorem PairsAt.kept {w w' : World} {B base n c : Nat} {A : Option Addr} {x : Vals} (h : PairsAt w B base A n c x) (hk : KeptV B w w') : PairsAt w' B base A n c x := by
  obtain ⟨h1, L, h2, h3⟩ := h
  exact ⟨h1, L, h2.kept hk.pair, hk.own h3 pair_touch⟩
theorem PairsAt.below {w w' : World} {B base n c : Nat} {A : Option Addr} {x : Vals} (h : PairsAt w B base A n c x) (hb : Below w.heap.size w w') : PairsAt w' B base A n c x := h.kept (.of_below hb)
/-- the k-th -/
theorem PairsAt.get {w : World} {B base n c : Nat} {A : Option Addr} {x : Vals} (h : PairsAt w B base A n c x) {k : Nat} (hk : k < n) :
    ∃ (g : Nat) (p : PairE) (q : Int × List UInt8), A = some ⟨g, 0, none⟩ ∧ x[k]? = some q ∧ x.take (k + 1) = x.take k ++ [q] ∧ p.1 = q.1 ∧ q.2.length = p.2.2.1 ∧ p.2.2.1 ≤ 10000 ∧ SeenS w B p.2.1 q.2 ∧ w.cell? ⟨g, k * 2, none⟩ = some (.int .i64 p.1) ∧ w.cell? ⟨g, k * 2 + 1, none⟩ = some (.slice p.2.1 p.2.2.1 p.2.2.2) := by
  obtain ⟨h1, L, h2, h3⟩ := h
  obtain ⟨p, q, e1, e2, ⟨e3, e4, e5, e6⟩, e7⟩ := h2.get (k := k) (by omega)
  obtain ⟨g, cc, hf, hg1, hg2⟩ := h3.form (by omega)
  injection hf with hf1 _ hf2
  subst hf1
  subst hf2
  obtain ⟨g1, g2⟩ := pairsV_get e1
  exact ⟨g, p, q, rfl, e2, e7, e3, e4, e5, e6, by rw [h3.cellAt _ (by omega)]; exact g1, by rw [h3.cellAt _ (by omega)]; exact g2⟩

/-! ### an append of a wider kind -/
theorem own_formz {w : World} {base : Nat} {e : TypeId} {z : Nat} {v : Value} {n : Nat} {xs : List Value} (h : w.ownsRow base e z v n xs) : ∃ A c, v = .slice A n c := by
  rcases h.2 with ⟨rfl, rfl⟩ | ⟨g, cap, cur, rfl, _⟩
  · exact ⟨_, _, rfl⟩
  · exact ⟨_, _, rfl⟩
theorem own_basez {w : World} {b b' : Nat} {e : TypeId} {z : Nat} {v : Value} {n : Nat} {xs : List Value} (h : w.ownsRow b e z v n xs) (hb : b' ≤ b) : w.ownsRow b' e z v n xs := by
  refine ⟨h.1, ?_⟩
  rcases h.2 with h2 | ⟨g, cap, cur, rfl, hg, r⟩
  · exact .inl h2
  · exact .inr ⟨g, cap, cur, rfl, by omega, r⟩
theorem own_belowz {w w' : World} {b : Nat} {e : TypeId} {z : Nat} {v : Value} {n : Nat} {xs : List Value} (h : w.ownsRow b e z v n xs) (hb : Below w.heap.size w w') : w'.ownsRow b e z v n xs := own65_turned (Turned.of_below (p := fun _ => False) hb) h fun _ _ e => e
theorem PairsAt.base {w : World} {B base base' n c : Nat} {A : Option Addr} {x : Vals} (h : PairsAt w B base A n c x) (hb : base' ≤ base) : PairsAt w B base' A n c x := by
  obtain ⟨h1, L, h2, h3⟩ := h
  exact ⟨h1, L, h2, own_basez h3 hb⟩
theorem SeenS.made {w : World} {B g : Nat} {cs : Array Value} {fr : Nat × Nat} {bs : List UInt8} (h : w.heap[g]? = some (.cells cs 5 fr)) (e : cs.toList = bytesV bs) : SeenS w B (some ⟨g, 0, none⟩) bs := by
  refine .inr ⟨g, 0, rfl, (Array.getElem?_eq_some_iff.1 h).1, fun hm => ?_, by rw [← e]; exact Seen.of_cells h⟩
  rcases hm.2 with ⟨cs', T, fr', hb', hT⟩ | ⟨es, c', hb'⟩
  · rw [h] at hb'
    injection hb' with hb'
    injection hb' with _ e2
    subst e2
    rcases hT with (hT | hT | hT | hT | hT | hT) | hT <;> exact absurd hT (by decide)
  · rw [h] at hb'; cases hb'
/-- a row of pairs with one more -/
theorem pairs_grow {wr wz w' : World} {B base n c c' : Nat} {A A' : Option Addr} {L : List PairE} {x : Vals} {p : PairE} {q : Int × List UInt8} (hE : Elems wr B L x) (hx : x.length = n) (hp : ElemAt wr B p q) (hB : B ≤ base)
    (hown : wr.ownsRow base 67 2 (.slice A n c) n (pairsV L)) (hal : Below wr.heap.size wr wz) (hg : wz.grownBy w' (Value.slice A n c).ownBlock)
    (hown' : w'.ownsRow base 67 2 (.slice A' (n + 1) c') (n + 1) (pairsV L ++ pairV p)) : PairsAt w' B base A' (n + 1) c' (x ++ [q]) ∧ KeptP B wr w' := by
  have hk : KeptP B wr w' := (KeptP.of_below hal).trans (KeptP.grown (own_belowz hown hal) hB hg)
  exact ⟨⟨by simp [hx], L ++ [p], (hE.snoc hp).kept hk, by rw [pairsV_snoc]; exact hown'⟩, hk⟩
theorem pair_info : (Tryz.prog.info? 67).map (fun i => (i.zero, i.size, i.bytes)) = some (some (.agg #[.int .i64 0, .slice none 0 0]), 2, 32) := by kernel_rfl
section
variable {P : Program} {w : World}
theorem wpList_appz {ops : Array Oper} {rest : List Oper} {o : Oper} {a : Act} {Q : Exit → Act → World → Prop} (hgd : o.guard = none) (s x : Operand) (t : TypeId)
    (ho : o.op = .call { callee := .builtin .append, args := #[s, x], argTypes := #[t, t] })
    (e : TypeId) (z : Value) (size bytes : Nat) (ht : P.underlying t = some (.slice e)) (hinfo : (P.info? e).map (fun i => (i.zero, i.size, i.bytes)) = some (some z, size, bytes)) (hz1 : z.cells.size = size) (hsz : 0 < size)
    (base : Nat) (A : Option Addr) (n c : Nat) (xs : List Value) (hs : a.eval s = .slice A n c) (hown : w.ownsRow base e size (.slice A n c) n xs)
    (g2 o2 m c2 : Nat) (news : List Value) (hx : a.eval x = .slice (some ⟨g2, o2, none⟩) m c2) (hm : news.length = m * size) (hsee : Seen w (some ⟨g2, o2, none⟩) news) (h1 : ∀ u ∈ news, u.oneCell' = true)
    (h63 : n + m ≤ maxLen) (hbytes : (n + m) * bytes ≤ 140737488355328) (hbase : base ≤ w.heap.size)
    (h : ∀ A' c' w', w'.ownsRow base e size (.slice A' (n + m) c') (n + m) (xs ++ news) → w.grownBy w' (Value.slice A n c).ownBlock → wpList P ops Q rest (a.put o.dst (.slice A' (n + m) c')) w') : wpList P ops Q (o :: rest) a w :=
  wpList_plain hgd fun K hK => by
    obtain ⟨i, hi, hz, hss, hb⟩ := info_parts hinfo
    have hcells : ∀ (j : Nat) u, news[j]? = some u → w.cell? ((⟨g2, o2, none⟩ : Addr).add j) = some u := by
      intro j u hu
      rcases hsee with rfl | ⟨g, o, hA, hc⟩
      · simp at hu
      · injection hA with hA
        rw [hA, Addr.add_lit]
        exact hc j u hu
    obtain ⟨v', w', hrun, hown', hg, _, hblk⟩ := run_append_own_at (P := P) w base t o.type e i z size bytes ht hi hz hss hb hz1 hsz _ n xs hown ⟨g2, o2, none⟩ m c2 news hm hcells h1 h63 hbytes hbase
    obtain ⟨A', c', rfl⟩ := own_formz hown'
    unfold Oper.wp execOp
    simp only [ho, resolve, invoke, builtin, Sem.run_bind, Sem.run_pure, Result.andThen_ok, List.map_toArray, List.map_cons, List.map_nil, hs, hx, hrun]
    exact hK _ _ (h A' c' w' hown' hg)
end

/-! ### Out -/
theorem outV_snoc (l : Vals) (q : Int × List UInt8) (k : Int) : outV (l ++ [q]) k = outV l k ++ (if q.1 = k then [] else [q]) := by
  unfold outV
  rw [List.filter_append]
  congr 1
  by_cases h : q.1 = k <;> simp [h]

set_option maxRecDepth 100000 in
theorem Out_any (B base : Nat) (A : Option Addr) (n c : Nat) (x : Vals) (k : Int) (w : World) (h : PairsAt w B base A n c x) (hB : B ≤ w.heap.size) (hn : n ≤ 100000) :
    Calls Tryz.prog 10 #[.slice A n c, .int .i64 k] w fun e w' => ∃ A' m c', e = .returned (.slice A' m c') ∧ PairsAt w' B w.heap.size A' m c' (outV x k) ∧ Below w.heap.size w w' := by
  have H := Lib.hid h
  have HB := Lib.hid hB
  have hxl := h.1
  have Hxl := Lib.hid hxl
  clear h hB hxl
  go_enter Tryz.func10, Tryz.ntmps10
  go_wp2
  go_loopw [5, 6] (fun ov iv wr => ∃ (i : Nat) (A' : Option Addr) (m c' : Nat), i ≤ n ∧ iv = .int .i64 (i : Int) ∧ ov = .slice A' m c' ∧ PairsAt wr B w.heap.size A' m c' (outV (x.take i) k) ∧ Below w.heap.size w wr) (fun _ iv _ => n - (intOf iv).toNat)
  case atStart => exact ⟨0, none, 0, 0, by omega, rfl, rfl, PairsAt.nil _ _ _, Below.refl _ _⟩
  case round =>
    obtain ⟨i, A', m, c', hin, rfl, rfl, hp, hb⟩ := hrel
    have Hp := Lib.hid hp; have Hb := Lib.hid hb
    have hwr := hb.size
    clear hp hb
    by_cases hi : i < n
    · obtain ⟨g, ⟨K, A1, m1, c1⟩, ⟨K', bs⟩, rfl, hq, htk, e1, e2, e3, e4, cK, cB⟩ := (H.out.below Hb.out).get hi
      obtain rfl : K = K' := e1
      have i0 : (0 : Int) ≤ (i : Int) := by omega
      have i1 : (i : Int) < (n : Int) := by omega
      have hos := outV_snoc (x.take i) (K, bs) k
      rw [← htk] at hos
      have Hos := Lib.hid hos; have He := Lib.hid (show ElemAt wr B (K, A1, m1, c1) (K, bs) from ⟨rfl, e2, e3, e4⟩)
      clear hq htk e2 e3 e4 hos
      by_cases hK : K = k
      · have hKb : (K != k) = false := by simp [hK]
        go_wp2
        go_roundw
        case rel => exact ⟨i + 1, A', m, c', by omega, by go_num, rfl, by rw [Hos.out, if_pos hK, List.append_nil]; exact Hp.out, Hb.out⟩
        case measure => simp [intOf]; omega
      · have hKb : (K != k) = true := by simp [hK]
        obtain ⟨hml, L, hE, hown⟩ := Hp.out
        have HE := Lib.hid hE; have Hown := Lib.hid hown; have Hml := Lib.hid hml
        have hm6 : m ≤ 100000 := by
          have h1 := outV_length (x.take i) k
          have h2 : (x.take i).length ≤ x.length := by rw [List.length_take]; exact Nat.min_le_right _ _
          have := Hxl.out
          omega
        have hal := Lib.hid ((Below.refl wr.heap.size wr).alloc (Nat.le_refl _) (.cells #[.int .i64 K, .slice A1 m1 c1] 67))
        clear hE hown hml
        go_wp2_with (at_builtin; refine wpList_appz rfl (.tmp 20) (.tmp 25) _ rfl 67 _ 2 32 Tryz.underlying30 pair_info rfl (by omega) w.heap.size A' m c' (pairsV L) rfl (own_belowz Hown.out hal.out) wr.heap.size 0 1 1 [.int .i64 K, .slice A1 m1 c1] rfl rfl (Seen.of_cells (heap_alloc_new wr _)) (by simp [Value.oneCell']) (by unfold maxLen; omega) (by omega) (by simp; omega) ?_; intro A4 c4 w4 hown4 hg4; have Hg4 := Lib.hid hg4; have Hown4 := Lib.hid hown4; clear hg4 hown4)
        have hgr := pairs_grow (p := (K, A1, m1, c1)) (q := (K, bs)) HE.out Hml.out He.out HB.out Hown.out hal.out Hg4.out Hown4.out
        have Hgr := Lib.hid hgr.1
        have Hb4 := Lib.hid ((Hb.out.trans (hal.out.mono Hb.out.size)).grown Hg4.out (by simp; omega) (fun k hk => (Hown.out.lt k hk).1))
        clear hgr
        go_roundw
        case rel => exact ⟨i + 1, A4, m + 1, c4, by omega, by go_num, rfl, by rw [Hos.out, if_neg hK]; exact Hgr.out, Hb4.out⟩
        case measure => simp [intOf]; omega
    · have i1 : ¬ (i : Int) < (n : Int) := by omega
      obtain rfl : i = n := by omega
      go_wp2
      go_ret
      exact ⟨A', m, c', rfl, by have := Hp.out; rwa [List.take_of_length_le (by rw [Hxl.out]; exact Nat.le_refl _)] at this, Hb.out⟩
end Go.Proofs.YtjekcaoonaniaaaGreat
