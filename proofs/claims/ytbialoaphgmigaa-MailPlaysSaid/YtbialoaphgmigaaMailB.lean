/-
  A box and the items that tell what it holds, side by side (BoxAt, PlayAt), and how posting, taking and draining turn them. No condition but what each lemma names.
-/
import Derived.Test.YtbialoaphgmigaaMailF
import Derived.Test.YtbialoaphgmigaaMailS
namespace Go.Proofs.Ytbialoaphgmigaa
open Go.ChangeShapes Go.WideShapes Go.ChangeAt Go.RowKit Go.Conc
set_option linter.unusedVariables false

/-- the value is the item's letter, its bytes of a row of their own -/
def LetAt (w : World) (v : Value) (x : It) : Prop := ∃ A' c', v = letV x.f x.t A' x.n c' ∧ w.ownsRow 0 5 1 (.slice A' x.n c') x.n (bytesV x.bs)
/-- the values are the items' letters -/
def LetsAt (w : World) (q : List Value) (L : List It) : Prop := q.length = L.length ∧ ∀ (i : Nat) (v : Value) (x : It), q[i]? = some v → L[i]? = some x → LetAt w v x
def BoxAt (w : World) (g : Nat) (c : Nat → Nat) (room : Nat) (X : List It) : Prop := ∃ q, IsB w g c room q ∧ ∀ k, k < 3 → LetsAt w (q k) (ofCls (k : Int) X)
/-- a channel's block, an items' row's block -/
def TurnC (w : World) (k : Nat) : Prop := ∃ cap buf cl s r tm, w.heap[k]? = some (.chan cap buf cl s r tm)
def TurnI (w : World) (k : Nat) : Prop := ∃ cs fr, w.heap[k]? = some (.cells cs 35 fr)
theorem LetAt.turned {w w' : World} {p : Nat → Prop} {v : Value} {x : It} (h : LetAt w v x) (ht : Turned p w w') (hp : ∀ k, p k → TurnC w k ∨ TurnI w k) : LetAt w' v x := by
  obtain ⟨A', c', rfl, ho⟩ := h
  refine ⟨A', c', rfl, own_turnedM ht ho fun k hk hpk => ?_⟩
  obtain ⟨cs, hb⟩ := row_blockM ho hk
  rcases hp k hpk with ⟨_, _, _, _, _, _, e⟩ | ⟨_, _, e⟩
  · rw [hb] at e; cases e
  · rw [hb] at e
    injection e with e
    injection e with _ e2
    exact absurd e2 (by decide)
theorem LetsAt.turned {w w' : World} {p : Nat → Prop} {q : List Value} {L : List It} (h : LetsAt w q L) (ht : Turned p w w') (hp : ∀ k, p k → TurnC w k ∨ TurnI w k) : LetsAt w' q L := ⟨h.1, fun i v x e1 e2 => (h.2 i v x e1 e2).turned ht hp⟩
theorem LetsAt.nil (w : World) : LetsAt w [] [] := ⟨rfl, fun i v x e => by simp at e⟩
theorem LetsAt.snoc {w : World} {q : List Value} {L : List It} {v : Value} {x : It} (h : LetsAt w q L) (hv : LetAt w v x) : LetsAt w (q ++ [v]) (L ++ [x]) := by
  refine ⟨by simp [h.1], fun i v' x' e1 e2 => ?_⟩
  by_cases hi : i < q.length
  · rw [List.getElem?_append_left hi] at e1
    rw [List.getElem?_append_left (by rw [← h.1]; exact hi)] at e2
    exact h.2 i v' x' e1 e2
  · have hl := (List.getElem?_eq_some_iff.1 e1).1
    rw [List.length_append, List.length_singleton] at hl
    have hi2 : i = q.length := by omega
    subst hi2
    rw [List.getElem?_concat_length] at e1
    rw [h.1, List.getElem?_concat_length] at e2
    injection e1 with e1; injection e2 with e2
    subst e1; subst e2
    exact hv
theorem LetsAt.cons {w : World} {q : List Value} {L : List It} {x : It} (h : LetsAt w q (x :: L)) : ∃ v q', q = v :: q' ∧ LetAt w v x ∧ LetsAt w q' L := by
  cases q with
  | nil => cases h.1
  | cons v q' =>
    refine ⟨v, q', rfl, h.2 0 v x rfl rfl, by have := h.1; simpa using this, fun i v' x' e1 e2 => h.2 (i + 1) v' x' (by simpa using e1) (by simpa using e2)⟩
theorem LetsAt.empty {w : World} {q : List Value} (h : LetsAt w q []) : q = [] := List.length_eq_zero_iff.1 h.1
theorem IsB.turnI {w w' : World} {g room : Nat} {c : Nat → Nat} {q : Nat → List Value} {p : Nat → Prop} (h : IsB w g c room q) (ht : Turned p w w') (hp : ∀ k, p k → TurnI w k) : IsB w' g c room q := by
  refine h.turned ht (fun e => ?_) (fun k hk e => ?_)
  · obtain ⟨cs, fr, e2⟩ := hp _ e
    rw [h.row] at e2
    injection e2 with e2
    injection e2 with _ e3
    exact absurd e3 (by decide)
  · obtain ⟨cs, fr, e2⟩ := hp _ e
    obtain ⟨s, r, e3⟩ := h.ch k hk
    rw [e3] at e2; cases e2
theorem BoxAt.turnI {w w' : World} {g room : Nat} {c : Nat → Nat} {X : List It} {p : Nat → Prop} (h : BoxAt w g c room X) (ht : Turned p w w') (hp : ∀ k, p k → TurnI w k) : BoxAt w' g c room X := by
  obtain ⟨q, h1, h2⟩ := h
  exact ⟨q, h1.turnI ht hp, fun k hk => (h2 k hk).turned ht fun j e => .inr (hp j e)⟩
theorem BoxAt.below {w w' : World} {g room : Nat} {c : Nat → Nat} {X : List It} (h : BoxAt w g c room X) (hb : Below w.heap.size w w') : BoxAt w' g c room X := h.turnI (p := fun _ => False) (.of_below hb) (fun _ e => e.elim)
theorem IsB.turnC {w : World} {g room : Nat} {c : Nat → Nat} {q : Nat → List Value} (h : IsB w g c room q) {k : Nat} (hk : k < 3) : TurnC w (c k) := by
  obtain ⟨s, r, e⟩ := h.ch k hk
  exact ⟨_, _, _, _, _, _, e⟩
theorem ItsAt.turnC {w w' : World} {base n c : Nat} {A : Option Addr} {X : List It} {p : Nat → Prop} (h : ItsAt w base A n c X) (ht : Turned p w w') (hp : ∀ k, p k → TurnC w k) : ItsAt w' base A n c X := by
  refine ⟨h.1, own_turnedM ht h.2 fun k hk hpk => ?_⟩
  obtain ⟨cs, hb⟩ := row_blockM h.2 hk
  obtain ⟨_, _, _, _, _, _, e⟩ := hp k hpk
  rw [hb] at e; cases e

/-- posted -/
theorem BoxAt.post {w w' : World} {g room k B : Nat} {c : Nat → Nat} {X : List It} {x : It} {q : Nat → List Value} {A' : Option Addr} {c' : Nat} (hq : IsB w g c room q) (hl : ∀ k, k < 3 → LetsAt w (q k) (ofCls (k : Int) X)) (hk : k < 3) (hx : x.cl = (k : Int))
    (hB : IsB w' g c room (fun j => if j = k then q k ++ [letV x.f x.t A' x.n c'] else q j)) (ho : w'.ownsRow B 5 1 (.slice A' x.n c') x.n (bytesV x.bs)) (ht : Turned (fun j => j = c k) w w') : BoxAt w' g c room (X ++ [x]) := by
  have hp : ∀ j, j = c k → TurnC w j ∨ TurnI w j := fun j e => .inl (by rw [e]; exact hq.turnC hk)
  refine ⟨_, hB, fun j hj => ?_⟩
  rw [ofCls_snoc]
  by_cases e : j = k
  · subst e
    rw [if_pos hx, if_pos rfl]
    exact ((hl j hj).turned ht hp).snoc ⟨A', c', rfl, own_baseM ho (Nat.zero_le _)⟩
  · rw [if_neg e, if_neg (by omega), List.append_nil]
    exact (hl j hj).turned ht hp

/-- the first taken out -/
def outI (X : List It) (a : Nat) : List It := X.take a ++ X.drop (a + 1)
theorem split_at {X : List It} {a : Nat} {p : It} (h : X[a]? = some p) : X = X.take a ++ p :: X.drop (a + 1) := by
  obtain ⟨ha, e⟩ := List.getElem?_eq_some_iff.1 h
  conv => lhs; rw [← List.take_append_drop a X]
  rw [List.drop_eq_getElem_cons ha, e]
theorem first_out {X : List It} {a : Nat} {p : It} (hf : IsFirst X a) (h : X[a]? = some p) :
    ofCls p.cl X = p :: ofCls p.cl (outI X a) ∧ (∀ k : Int, k < p.cl → ofCls k X = []) ∧ (∀ k : Int, k ≠ p.cl → ofCls k X = ofCls k (outI X a)) := by
  obtain ⟨q, e, h1, h2⟩ := hf
  rw [h] at e
  injection e with e
  subst e
  have hs := split_at h
  have ht : ∀ y ∈ X.take a, p.cl < y.cl := fun y hy => by
    obtain ⟨j, hj⟩ := List.mem_iff_getElem?.1 hy
    rw [List.getElem?_take] at hj
    split at hj
    · exact h2 j y (by assumption) hj
    · cases hj
  have hta : ofCls p.cl (X.take a) = [] := by
    unfold ofCls
    rw [List.filter_eq_nil_iff]
    intro y hy
    have := ht y hy
    simp; omega
  refine ⟨?_, fun k hk => ?_, fun k hk => ?_⟩
  · conv => lhs; rw [hs]
    unfold outI
    unfold ofCls at hta ⊢
    rw [List.filter_append, List.filter_append, hta, List.filter_cons_of_pos (by simp)]
    rfl
  · unfold ofCls
    rw [List.filter_eq_nil_iff]
    intro y hy
    obtain ⟨j, hj⟩ := List.mem_iff_getElem?.1 hy
    have := h1 j y hj
    simp; omega
  · conv => lhs; rw [hs]
    unfold outI ofCls
    rw [List.filter_append, List.filter_append, List.filter_cons_of_neg (by simp; omega)]
theorem outI_mem {X : List It} {a : Nat} {x : It} (h : x ∈ outI X a) : x ∈ X := by
  unfold outI at h
  rcases List.mem_append.1 h with h | h
  · exact List.mem_of_mem_take h
  · exact List.mem_of_mem_drop h
theorem outI_length {X : List It} {a : Nat} (h : a < X.length) : (outI X a).length = X.length - 1 := by
  unfold outI
  rw [List.length_append, List.length_take, List.length_drop]; omega
theorem BoxAt.took {w w' : World} {g room m a : Nat} {c : Nat → Nat} {X : List It} {p : It} {q : Nat → List Value} {rest : List Value} (hq : IsB w g c room q) (hl : ∀ k, k < 3 → LetsAt w (q k) (ofCls (k : Int) X)) (hm : m < 3) (hpm : p.cl = (m : Int)) (hf : IsFirst X a) (hp : X[a]? = some p)
    (hr : LetsAt w rest (ofCls (m : Int) (outI X a))) (hB : IsB w' g c room (fun j => if j = m then rest else q j)) (ht : Turned (fun j => j = c m) w w') : BoxAt w' g c room (outI X a) := by
  have hp' : ∀ j, j = c m → TurnC w j ∨ TurnI w j := fun j e => .inl (by rw [e]; exact hq.turnC hm)
  obtain ⟨_, _, h3⟩ := first_out hf hp
  refine ⟨_, hB, fun j hj => ?_⟩
  by_cases e : j = m
  · subst e
    rw [if_pos rfl]
    exact hr.turned ht hp'
  · rw [if_neg e, ← h3 (j : Int) (by rw [hpm]; omega)]
    exact (hl j hj).turned ht hp'
/-- all taken -/
theorem BoxAt.drained {w' : World} {g room : Nat} {c : Nat → Nat} (hB : IsB w' g c room (fun _ => [])) : BoxAt w' g c room [] := ⟨_, hB, fun k _ => LetsAt.nil _⟩
def OkIts (W : World) (X : List It) : Prop := ∀ x, x ∈ X → 0 ≤ x.cl ∧ x.cl < 3 ∧ x.bs.length = x.n ∧ x.n ≤ 20 ∧ Seen W x.A (bytesV x.bs)
theorem lens_all {W w : World} {X : List It} {q : Nat → List Value} (h : OkIts W X) (hl : ∀ k, k < 3 → LetsAt w (q k) (ofCls (k : Int) X)) : lensTo q 3 = X.length := by
  have e : lensTo q 3 = (ofCls 0 X).length + (ofCls 1 X).length + (ofCls 2 X).length := by
    have h0 := (hl 0 (by omega)).1
    have h1 := (hl 1 (by omega)).1
    have h2 := (hl 2 (by omega)).1
    simp only [lensTo] at *
    have e0 : ((0 : Nat) : Int) = 0 := rfl
    have e1 : ((1 : Nat) : Int) = 1 := rfl
    have e2 : ((2 : Nat) : Int) = 2 := rfl
    rw [e0] at h0; rw [e1] at h1; rw [e2] at h2
    omega
  rw [e]
  clear e hl
  induction X with
  | nil => rfl
  | cons x r ih =>
    have hx := h x List.mem_cons_self
    have := ih (fun y hy => h y (List.mem_cons_of_mem _ hy))
    unfold ofCls at *
    rcases (show x.cl = 0 ∨ x.cl = 1 ∨ x.cl = 2 by omega) with e | e | e <;> simp [e] <;> omega
theorem OkIts.snoc {W : World} {X : List It} {x : It} (h : OkIts W X) (hx : 0 ≤ x.cl ∧ x.cl < 3 ∧ x.bs.length = x.n ∧ x.n ≤ 20 ∧ Seen W x.A (bytesV x.bs)) : OkIts W (X ++ [x]) := by
  intro y hy
  rcases List.mem_append.1 hy with hy | hy
  · exact h y hy
  · rw [List.mem_singleton] at hy
    subst hy
    exact hx
theorem OkIts.out {W : World} {X : List It} {a : Nat} (h : OkIts W X) : OkIts W (outI X a) := fun x hx => h x (outI_mem hx)
theorem none_of {W : World} {X : List It} (h : OkIts W X) {k : Int} (hk : ¬ (0 ≤ k ∧ k < 3)) : ofCls k X = [] := by
  unfold ofCls
  rw [List.filter_eq_nil_iff]
  intro y hy
  have := h y hy
  simp; omega

/-- the box and the items of a play, X in the box, Y told -/
structure PlayAt (W : World) (g : Nat) (c : Nat → Nat) (room : Nat) (X Y : List It) (A : Option Addr) (n cp : Nat) (wr : World) : Prop where
  b : Below W.heap.size W wr
  q : BoxAt wr g c room X
  x : ItsAt wr W.heap.size A n cp Y
  ok : OkIts W Y
  g : W.heap.size ≤ g
  c : ∀ j, j < 3 → W.heap.size ≤ c j
theorem PlayAt.below {W wr w' : World} {g room n cp : Nat} {c : Nat → Nat} {X Y : List It} {A : Option Addr} (h : PlayAt W g c room X Y A n cp wr) (hb : Below wr.heap.size wr w') : PlayAt W g c room X Y A n cp w' :=
  ⟨h.b.trans (hb.mono h.b.size), h.q.below hb, h.x.below hb, h.ok, h.g, h.c⟩
/-- an item more told -/
theorem PlayAt.told {W wr wz w' : World} {g room n cp c' : Nat} {c : Nat → Nat} {X Y : List It} {A A' : Option Addr} {x : It} (h : PlayAt W g c room X Y A n cp wr) (hx : 0 ≤ x.cl ∧ x.cl < 3 ∧ x.bs.length = x.n ∧ x.n ≤ 20 ∧ Seen W x.A (bytesV x.bs))
    (hal : Below wr.heap.size wr wz) (hg : wz.grownBy w' (Value.slice A n cp).ownBlock) (ho : w'.ownsRow W.heap.size 35 4 (.slice A' (n + 1) c') (n + 1) (itsV Y ++ itV x)) : PlayAt W g c room X (Y ++ [x]) A' (n + 1) c' w' := by
  have hz := h.below hal
  have ht : Turned (fun k => (Value.slice A n cp).ownBlock = some k) wz w' := Turned.of_grown hg fun _ e => e
  have hp : ∀ k, (Value.slice A n cp).ownBlock = some k → TurnI wz k := fun k hk => by
    obtain ⟨cs, hb⟩ := row_blockM hz.x.2 hk
    exact ⟨cs, _, hb⟩
  refine ⟨hz.b.trans (ht.below (fun k hk => (hz.x.2.lt k hk).1) hz.b.size), hz.q.turnI ht hp, ⟨by simp [hz.x.1], ?_⟩, hz.ok.snoc hx, h.g, h.c⟩
  rw [itsV_append]
  have : itsV [x] = itV x := by simp [itsV]
  rw [this]; exact ho
/-- the box turned -/
theorem PlayAt.boxed {W wr w' : World} {g room n cp : Nat} {c : Nat → Nat} {X X' Y : List It} {A : Option Addr} {p : Nat → Prop} (h : PlayAt W g c room X Y A n cp wr) (ht : Turned p wr w') (hp : ∀ k, p k → TurnC wr k) (hpc : ∀ k, p k → Chans c k) (hq : BoxAt w' g c room X') : PlayAt W g c room X' Y A n cp w' :=
  ⟨h.b.trans (ht.below (fun k hk => by obtain ⟨j, hj, e⟩ := hpc k hk; rw [e]; exact h.c j hj) h.b.size), hq, h.x.turnC ht hp, h.ok, h.g, h.c⟩
theorem PlayAt.len {W wr : World} {g room n cp : Nat} {c : Nat → Nat} {X Y : List It} {A : Option Addr} (h : PlayAt W g c room X Y A n cp wr) : Y.length = n := h.x.1

/-- Len, of any class -/
theorem Len_any {W wr : World} {g room n cp : Nat} {c : Nat → Nat} {X : List It} {A : Option Addr} (h : PlayAt W g c room X X A n cp wr) (k : Int) :
    Calls Try.prog 15 #[.pointer (some ⟨g, 0, none⟩), .int .i64 k] wr fun e w' => e = .returned (.int .i64 ((ofCls k X).length : Int)) ∧ wr = w' := by
  obtain ⟨q, h1, h2⟩ := h.q
  by_cases hk : 0 ≤ k ∧ k < 3
  · obtain ⟨m, rfl⟩ : ∃ m : Nat, k = (m : Int) := ⟨k.toNat, by omega⟩
    have := Len_yes g room c q m wr h1 (by omega)
    rw [(h2 m (by omega)).1] at this
    exact this
  · rw [none_of h.ok hk]
    exact Len_no g room c q k wr hk
end Go.Proofs.Ytbialoaphgmigaa
