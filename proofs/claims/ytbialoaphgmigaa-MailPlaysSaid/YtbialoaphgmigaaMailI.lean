/-
  Items of dotterelref08 in memory, and contracts of its Count, First, Out. Conditions: what each names.
-/
import Derived.Test.YtbialoaphgmigaaMailA
import Derived.Test.YtbialoaphgmigaaStep
import Derived.BigQuiet
import Derived.OwnWalk
namespace Go.Proofs.Ytbialoaphgmigaa
open Go.ChangeShapes Go.WideShapes Go.ChangeAt Go.RowKit Go.Conc
set_option linter.unusedVariables false

/-- an item: its class, its letter, the letter's bytes -/
structure It where
  cl : Int
  f : Int
  t : Int
  A : Option Addr
  n : Nat
  c : Nat
  bs : List UInt8
def itV (x : It) : List Value := [.int .i64 x.cl, .int .i64 x.f, .int .i64 x.t, .slice x.A x.n x.c]
def itsV (X : List It) : List Value := X.flatMap itV
theorem itsV_append (X Y : List It) : itsV (X ++ Y) = itsV X ++ itsV Y := by simp [itsV]
theorem itsV_length (X : List It) : (itsV X).length = X.length * 4 := by
  induction X with
  | nil => rfl
  | cons p r ih =>
    have : (itsV (p :: r)).length = 4 + (itsV r).length := by simp [itsV, itV]; omega
    rw [this, ih, List.length_cons]; omega
theorem itsV_get : ∀ {X : List It} {i : Nat} {p : It}, X[i]? = some p → (itsV X)[i * 4]? = some (.int .i64 p.cl) ∧ (itsV X)[i * 4 + 1]? = some (.int .i64 p.f) ∧ (itsV X)[i * 4 + 2]? = some (.int .i64 p.t) ∧ (itsV X)[i * 4 + 3]? = some (.slice p.A p.n p.c)
  | [], _, _, h => by simp at h
  | q :: r, 0, p, h => by
    simp at h
    subst h
    exact ⟨rfl, rfl, rfl, rfl⟩
  | q :: r, i + 1, p, h => by
    have := itsV_get (X := r) (i := i) (p := p) (by simpa using h)
    have e1 : (i + 1) * 4 = (i * 4) + 1 + 1 + 1 + 1 := by omega
    rw [e1]
    exact this
theorem itsV_one (X : List It) : ∀ u ∈ itsV X, u.oneCell' = true := by
  intro u hu
  simp only [itsV, List.mem_flatMap, itV, List.mem_cons, List.not_mem_nil, or_false] at hu
  obtain ⟨p, _, rfl | rfl | rfl | rfl⟩ := hu <;> rfl
theorem itsV_take (X : List It) (i : Nat) : (itsV X).take (i * 4) = itsV (X.take i) := by
  by_cases h : i ≤ X.length
  · have e : itsV X = itsV (X.take i) ++ itsV (X.drop i) := by rw [← itsV_append, List.take_append_drop]
    rw [e, List.take_append_of_le_length (by rw [itsV_length, List.length_take]; omega), List.take_of_length_le (by rw [itsV_length, List.length_take]; omega)]
  · rw [List.take_of_length_le (by rw [itsV_length]; omega), List.take_of_length_le (by omega)]
theorem itsV_drop (X : List It) (i : Nat) : (itsV X).drop (i * 4) = itsV (X.drop i) := by
  by_cases h : i ≤ X.length
  · have e : itsV X = itsV (X.take i) ++ itsV (X.drop i) := by rw [← itsV_append, List.take_append_drop]
    have hl : (itsV (X.take i)).length = i * 4 := by rw [itsV_length, List.length_take]; omega
    rw [e, ← hl, List.drop_left]
  · rw [List.drop_eq_nil_of_le (by rw [itsV_length]; omega), List.drop_eq_nil_of_le (by omega)]; rfl
/-- a slice of items of its own row -/
def ItsAt (w : World) (base : Nat) (A : Option Addr) (n c : Nat) (X : List It) : Prop := X.length = n ∧ w.ownsRow base 35 4 (.slice A n c) n (itsV X)
theorem ItsAt.nil (w : World) (base : Nat) : ItsAt w base none 0 0 [] := ⟨rfl, World.ownsRow_nil _ _ _ _⟩
theorem own_formM {w : World} {base : Nat} {e : TypeId} {z : Nat} {v : Value} {n : Nat} {xs : List Value} (h : w.ownsRow base e z v n xs) : ∃ A c, v = .slice A n c := by
  rcases h.2 with ⟨rfl, rfl⟩ | ⟨g, cap, cur, rfl, _⟩
  · exact ⟨_, _, rfl⟩
  · exact ⟨_, _, rfl⟩
theorem own_turnedM {p : Nat → Prop} {w w' : World} {base z : Nat} {e : TypeId} {v : Value} {n : Nat} {xs : List Value} (h : Turned p w w') (ho : w.ownsRow base e z v n xs) (hn : ∀ k, v.ownBlock = some k → ¬ p k) : w'.ownsRow base e z v n xs := by
  refine ⟨ho.1, ?_⟩
  rcases ho.2 with h2 | ⟨g, cap, cur, rfl, hg, hh, r⟩
  · exact .inl h2
  · exact .inr ⟨g, cap, cur, rfl, hg, h.heap hh (hn g rfl), r⟩
theorem own_belowM {w w' : World} {b : Nat} {e : TypeId} {z : Nat} {v : Value} {n : Nat} {xs : List Value} (h : w.ownsRow b e z v n xs) (hb : Below w.heap.size w w') : w'.ownsRow b e z v n xs := own_turnedM (Turned.of_below (p := fun _ => False) hb) h fun _ _ e => e
theorem row_blockM {w : World} {base z n : Nat} {e : TypeId} {v : Value} {xs : List Value} (h : w.ownsRow base e z v n xs) {k : Nat} (hk : v.ownBlock = some k) : ∃ cs, w.heap[k]? = some (.cells cs e (0, 0)) := by
  rcases h.2 with ⟨rfl, _⟩ | ⟨g, cap, cur, rfl, _, hh, _⟩
  · cases hk
  · injection hk with hk
    subst hk
    exact ⟨cur, hh⟩
theorem ItsAt.below {w w' : World} {base n c : Nat} {A : Option Addr} {X : List It} (h : ItsAt w base A n c X) (hb : Below w.heap.size w w') : ItsAt w' base A n c X := ⟨h.1, own_belowM h.2 hb⟩
/-- the k-th -/
theorem ItsAt.get {w : World} {base n c : Nat} {A : Option Addr} {X : List It} (h : ItsAt w base A n c X) {k : Nat} (hk : k < n) :
    ∃ (g : Nat) (p : It), A = some ⟨g, 0, none⟩ ∧ X[k]? = some p ∧ X.take (k + 1) = X.take k ++ [p] ∧ w.cell? ⟨g, k * 4, none⟩ = some (.int .i64 p.cl) ∧ w.cell? ⟨g, k * 4 + 1, none⟩ = some (.int .i64 p.f) ∧ w.cell? ⟨g, k * 4 + 2, none⟩ = some (.int .i64 p.t) ∧ w.cell? ⟨g, k * 4 + 3, none⟩ = some (.slice p.A p.n p.c) := by
  obtain ⟨h1, h3⟩ := h
  have hx : X[k]? = some (X[k]'(by omega)) := List.getElem?_eq_getElem (by omega)
  obtain ⟨g, cc, hf, hg1, hg2⟩ := h3.form (by omega)
  injection hf with hf1 _ hf2
  subst hf1
  subst hf2
  obtain ⟨e0, e1, e2, e3⟩ := itsV_get hx
  exact ⟨g, _, rfl, hx, List.take_succ_eq_append_getElem (by omega), by rw [h3.cellAt _ (by omega)]; exact e0, by rw [h3.cellAt _ (by omega)]; exact e1, by rw [h3.cellAt _ (by omega)]; exact e2, by rw [h3.cellAt _ (by omega)]; exact e3⟩
theorem item_info : (Try.prog.info? 35).map (fun i => (i.zero, i.size, i.bytes)) = some (some (.agg #[.int .i64 0, .int .i64 0, .int .i64 0, .slice none 0 0]), 4, 48) := by kernel_rfl

/-! ### Count -/
def ofCls (k : Int) (X : List It) : List It := X.filter fun x => decide (x.cl = k)
theorem ofCls_snoc (k : Int) (X : List It) (p : It) : ofCls k (X ++ [p]) = ofCls k X ++ (if p.cl = k then [p] else []) := by
  unfold ofCls
  rw [List.filter_append]
  congr 1
  by_cases h : p.cl = k <;> simp [h]
theorem ofCls_length (k : Int) (X : List It) : (ofCls k X).length ≤ X.length := List.length_filter_le _ _

set_option maxRecDepth 100000 in
theorem Count_any (base : Nat) (A : Option Addr) (n c : Nat) (X : List It) (k : Int) (w : World) (h : ItsAt w base A n c X) (hn : n ≤ 100000) :
    Calls Try.prog 8 #[.slice A n c, .int .i64 k] w fun e w' => e = .returned (.int .i64 ((ofCls k X).length : Int)) ∧ w = w' := by
  have H := Lib.hid h
  have Hxl := Lib.hid h.1
  clear h
  go_enter Try.func8, Try.ntmps8
  go_wp2
  go_loopw [5, 6] (fun nv iv wr => ∃ (i : Nat), i ≤ n ∧ iv = .int .i64 (i : Int) ∧ nv = .int .i64 ((ofCls k (X.take i)).length : Int) ∧ wr = w) (fun _ iv _ => n - (intOf iv).toNat)
  case atStart => exact ⟨0, by omega, rfl, rfl, rfl⟩
  case round =>
    obtain ⟨i, hin, rfl, rfl, rfl⟩ := hrel
    by_cases hi : i < n
    · obtain ⟨g, p, rfl, hq, htk, c0, _, _, _⟩ := H.out.get hi
      have i0 : (0 : Int) ≤ (i : Int) := by omega
      have i1 : (i : Int) < (n : Int) := by omega
      have hos := ofCls_snoc k (X.take i) p
      rw [← htk] at hos
      have Hos := Lib.hid hos
      have hlen : (ofCls k (X.take i)).length ≤ 100000 := by
        have h1 := ofCls_length k (X.take i)
        rw [List.length_take] at h1
        omega
      obtain ⟨m, hm⟩ : ∃ m, (ofCls k (X.take i)).length = m := ⟨_, rfl⟩
      rw [hm] at hlen ⊢
      have Hm := Lib.hid hm
      clear hq htk hos hm
      by_cases hK : p.cl = k
      · have hKb : (p.cl == k) = true := by simp [hK]
        have hnew : (ofCls k (X.take (i + 1))).length = m + 1 := by rw [Hos.out, if_pos hK, List.length_append, Hm.out]; rfl
        have Hnew := Lib.hid hnew
        clear hK hnew
        go_wp2
        go_roundw
        case rel => exact ⟨i + 1, by omega, by go_num, by rw [Hnew.out]; go_num, trivial⟩
        case measure => simp [intOf]; omega
      · have hKb : (p.cl == k) = false := by simp [hK]
        have hnew : (ofCls k (X.take (i + 1))).length = m := by rw [Hos.out, if_neg hK, List.append_nil, Hm.out]
        have Hnew := Lib.hid hnew
        clear hK hnew
        go_wp2
        go_roundw
        case rel => exact ⟨i + 1, by omega, by go_num, by rw [Hnew.out], trivial⟩
        case measure => simp [intOf]; omega
    · have i1 : ¬ (i : Int) < (n : Int) := by omega
      obtain rfl : i = n := by omega
      have hty : X.take i = X := List.take_of_length_le (by rw [Hxl.out]; exact Nat.le_refl _)
      rw [hty]
      clear hty
      go_wp2
      go_ret
      exact ⟨rfl, rfl⟩
end Go.Proofs.Ytbialoaphgmigaa
