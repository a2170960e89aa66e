/-
  A vault in memory (IsV), what its methods may turn (KeptV), and contracts of Get, Keys. Conditions: what each names.
-/
import Derived.Test.YtjekcaoonaniaaaGreatVauSt
import Derived.IntWalk
namespace Go.Proofs.YtjekcaoonaniaaaGreat
open Go.ChangeShapes Go.WideShapes Go.ChangeAt Go.RowKit Go.Maps
set_option linter.unusedVariables false

/-- the kinds of blocks that a vault's methods write -/
def TouchT (T : TypeId) : Prop := T = 54 ∨ T = 94 ∨ T = 96 ∨ T = 115 ∨ T = 117 ∨ T = 59
def MayV (B : Nat) (w : World) (k : Nat) : Prop := B ≤ k ∧ ((∃ cs T fr, w.heap[k]? = some (.cells cs T fr) ∧ TouchT T) ∨ ∃ es c, w.heap[k]? = some (.map es c))
/-- of what was there only such blocks, and maps, may have turned -/
def KeptV (B : Nat) (w w' : World) : Prop := Turned (MayV B w) w w'
theorem KeptV.refl (B : Nat) (w : World) : KeptV B w w := Turned.refl _ _
theorem KeptV.of_below {B : Nat} {w w' : World} (h : Below w.heap.size w w') : KeptV B w w' := Turned.of_below h
theorem KeptV.of_turned {B : Nat} {p : Nat → Prop} {w w' : World} (h : Turned p w w') (hp : ∀ k, k < w.heap.size → p k → MayV B w k) : KeptV B w w' := h.mono hp
theorem KeptV.trans {B : Nat} {a b c : World} (h : KeptV B a b) (k : KeptV B b c) : KeptV B a c := by
  refine Turned.trans h k (fun _ e => e) fun i hi e => ?_
  by_cases hm : MayV B a i
  · exact hm
  · have hb := h.block i hi hm
    obtain ⟨e1, e2⟩ := e
    rw [hb] at e2
    exact ⟨e1, e2⟩
theorem KeptV.below {B : Nat} {w w' : World} (h : KeptV B w w') (hB : B ≤ w.heap.size) : Below B w w' := Turned.below h (fun k hk => hk.1) hB
theorem KeptV.own {B B' : Nat} {w w' : World} (h : KeptV B w w') {e : TypeId} {n z : Nat} {v : Value} {xs : List Value} (ho : w.ownsRow B' e z v n xs) (he : ¬ TouchT e) : w'.ownsRow B' e z v n xs :=
  own65_turned h ho fun k hk hm => by
    obtain ⟨cs, hb⟩ := row_block ho hk
    rcases hm.2 with ⟨cs', T, fr, hb', hT⟩ | ⟨es, c, hb'⟩
    · rw [hb] at hb'
      injection hb' with hb'
      injection hb' with _ e2
      exact he (e2 ▸ hT)
    · rw [hb] at hb'; cases hb'
theorem KeptV.heap {B : Nat} {w w' : World} (h : KeptV B w w') {k : Nat} {cs : Array Value} {T : TypeId} {fr : Nat × Nat} (hk : w.heap[k]? = some (.cells cs T fr)) (he : ¬ TouchT T) : w'.heap[k]? = some (.cells cs T fr) :=
  Turned.heap h hk fun hm => by
    rcases hm.2 with ⟨cs', T', fr', hb', hT⟩ | ⟨es, c, hb'⟩
    · rw [hk] at hb'
      injection hb' with hb'
      injection hb' with _ e2
      exact he (e2 ▸ hT)
    · rw [hk] at hb'; cases hb'

theorem IsJ.kinds {w : World} {B g s : Nat} {r : Option Nat} {j : Nat} {q : Option Nat} {J : Jn} (h : IsJ w B g s r j q J) : ∀ k, FootJ g s r j q k → ∃ cs T fr, w.heap[k]? = some (.cells cs T fr) ∧ TouchT T ∧ T ≠ 59 := by
  obtain ⟨_, hd, _, _, _, _, _, _, _, _, A, c, hh, hown, hq⟩ := h
  obtain ⟨h1, h2, h3, h4, h5, h6, h7, A', c', h8, h9, h10⟩ := hd
  rintro k (e | e | e | e | e)
  · subst e; exact ⟨_, _, _, h8, .inl rfl, by decide⟩
  · subst e; exact ⟨_, _, _, h7, .inr (.inl rfl), by decide⟩
  · subst e; exact ⟨_, _, _, hh, .inr (.inr (.inr (.inl rfl))), by decide⟩
  · rw [← h10] at e
    obtain ⟨cs, hb⟩ := row_block h9 e
    exact ⟨_, _, _, hb, .inr (.inr (.inl rfl)), by decide⟩
  · rw [← hq] at e
    obtain ⟨cs, hb⟩ := row_block hown e
    exact ⟨_, _, _, hb, .inr (.inr (.inr (.inr (.inl rfl)))), by decide⟩
theorem IsJ.may {w : World} {B g s : Nat} {r : Option Nat} {j : Nat} {q : Option Nat} {J : Jn} (h : IsJ w B g s r j q J) : ∀ k, FootJ g s r j q k → MayV B w k := fun k hk => by
  obtain ⟨cs, T, fr, hb, hT, _⟩ := h.kinds k hk
  exact ⟨(h.lt k hk).1, .inl ⟨cs, T, fr, hb, hT⟩⟩
theorem IsD.kinds {w : World} {B g s : Nat} {r : Option Nat} {d : Dv} (h : IsD w B g s r d) : ∀ k, FootD g s r k → ∃ cs T fr, w.heap[k]? = some (.cells cs T fr) ∧ TouchT T ∧ T ≠ 59 := by
  obtain ⟨h1, h2, h3, h4, h5, h6, h7, A', c', h8, h9, h10⟩ := h
  rintro k (e | e | e)
  · subst e; exact ⟨_, _, _, h8, .inl rfl, by decide⟩
  · subst e; exact ⟨_, _, _, h7, .inr (.inl rfl), by decide⟩
  · rw [← h10] at e
    obtain ⟨cs, hb⟩ := row_block h9 e
    exact ⟨_, _, _, hb, .inr (.inr (.inl rfl)), by decide⟩
theorem IsD.may {w : World} {B g s : Nat} {r : Option Nat} {d : Dv} (h : IsD w B g s r d) : ∀ k, FootD g s r k → MayV B w k := fun k hk => by
  obtain ⟨cs, T, fr, hb, hT, _⟩ := h.kinds k hk
  refine ⟨?_, .inl ⟨cs, T, fr, hb, hT⟩⟩
  have hl := h.lt
  rcases hk with e | e | e
  · omega
  · omega
  · exact (hl.2.2.2.2 k e).1
theorem keptV_dev {w w' : World} {B g s : Nat} {r : Option Nat} {d : Dv} (h : IsD w B g s r d) (ht : Turned (FootD g s r) w w') : KeptV B w w' := ht.mono fun k _ hk => h.may k hk
theorem vault_kept {w w' : World} {p : Nat → Prop} {v : Nat} {cs : Array Value} (hv : w.heap[v]? = some (.cells cs 59 (0, 0))) (ht : Turned p w w') (hp : ∀ k, p k → ∃ cs T fr, w.heap[k]? = some (.cells cs T fr) ∧ TouchT T ∧ T ≠ 59) : w'.heap[v]? = some (.cells cs 59 (0, 0)) :=
  ht.heap hv fun hk => by
    obtain ⟨cs', T, fr, hb, _, hne⟩ := hp v hk
    rw [hv] at hb
    injection hb with hb
    injection hb with _ e2
    exact hne e2.symm
theorem keptV_cell {w : World} {B v j : Nat} {cs : Array Value} (hB : B ≤ v) (hv : w.heap[v]? = some (.cells cs 59 (0, 0))) (u : Value) : KeptV B w (w.setCell ⟨v, j, none⟩ u) :=
  (Turned.setCell (Turned.refl (fun k => k = v) w) (b := ⟨v, j, none⟩) (fun _ => rfl) u).mono fun k _ hk => by
    rw [hk]
    exact ⟨hB, .inl ⟨cs, _, _, hv, .inr (.inr (.inr (.inr (.inr rfl))))⟩⟩
theorem MovedJ.keptV {w w' : World} {B g s : Nat} {r : Option Nat} {j : Nat} {q : Option Nat} {J J2 : Jn} (h : IsJ w B g s r j q J) (hm : MovedJ B g s r j q J2 w w') : KeptV B w w' := by
  obtain ⟨_, _, _, _, _, ht⟩ := hm
  exact ht.mono fun k _ hk => h.may k hk

/-- a vault's cells -/
def vcells (g j m gen next : Nat) : Array Value := #[.pointer (some ⟨g, 0, none⟩), .pointer (some ⟨j, 0, none⟩), .map (some m), .int .i64 (gen : Int), .int .i64 (next : Int), .bool false]
/-- a vault that is read: its values, its generation -/
def ReadV (w : World) (B v gen : Nat) (x : Vals) : Prop := ∃ g j m next, w.heap[v]? = some (.cells (vcells g j m gen next) 59 (0, 0)) ∧ ValsAt w B m x ∧ GoodV x ∧ x.length ≤ 10000
/-- a vault at v over a device at g -/
def IsV (w : World) (B v g s : Nat) (st : Vt) : Prop :=
  st.Ok ∧ ∃ r j q m J, B ≤ v ∧ w.heap[v]? = some (.cells (vcells g j m st.gen st.next) 59 (0, 0)) ∧ IsJ w B g s r j q J ∧ JouOk J st ∧ ValsAt w B m st.x
theorem IsV.ok {w : World} {B v g s : Nat} {st : Vt} (h : IsV w B v g s st) : st.Ok := h.1
theorem IsV.read {w : World} {B v g s : Nat} {st : Vt} (h : IsV w B v g s st) : ReadV w B v st.gen st.x := by
  obtain ⟨ho, r, j, q, m, J, h1, h2, h3, h4, h5⟩ := h
  exact ⟨g, j, m, st.next, h2, h5, ho.good, by have := ho.xlen; omega⟩
theorem IsV.size {w : World} {B v g s : Nat} {st : Vt} (h : IsV w B v g s st) : B ≤ w.heap.size := by
  obtain ⟨ho, r, j, q, m, J, h1, h2, _⟩ := h
  have := (Array.getElem?_eq_some_iff.1 h2).1
  omega
theorem IsV.below {w w' : World} {B v g s : Nat} {st : Vt} (h : IsV w B v g s st) (hb : Below w.heap.size w w') : IsV w' B v g s st := by
  obtain ⟨ho, r, j, q, m, J, h1, h2, h3, h4, h5⟩ := h
  exact ⟨ho, r, j, q, m, J, h1, by rw [hb.block v (Array.getElem?_eq_some_iff.1 h2).1]; exact h2, h3.below hb, h4, h5.below hb⟩
theorem IsV.dev {w : World} {B v g s : Nat} {st : Vt} (h : IsV w B v g s st) : ∃ r d, IsD w B g s r d ∧ DevOk d st := by
  obtain ⟨ho, r, j, q, m, J, h1, h2, h3, h4, h5⟩ := h
  exact ⟨r, J.d, h3.dev, h4.dev ho⟩
theorem ReadV.below {w w' : World} {B v gen : Nat} {x : Vals} (h : ReadV w B v gen x) (hb : Below w.heap.size w w') : ReadV w' B v gen x := by
  obtain ⟨g, j, m, next, h1, h2, h3, h4⟩ := h
  exact ⟨g, j, m, next, by rw [hb.block v (Array.getElem?_eq_some_iff.1 h1).1]; exact h1, h2.below hb, h3, h4⟩
/-- what moves the device alone leaves what a vault reads -/
theorem ReadV.device {w w' : World} {B v gen g s : Nat} {r : Option Nat} {x : Vals} {B' : Nat} {d : Dv} (h : ReadV w B v gen x) (hd : IsD w B' g s r d) (ht : Turned (FootD g s r) w w') : ReadV w' B v gen x := by
  obtain ⟨g', j, m, next, h1, h2, h3, h4⟩ := h
  refine ⟨g', j, m, next, ht.heap h1 fun hk => ?_, h2.turned ht hd.spares, h3, h4⟩
  have : ∃ cs T fr, w.heap[v]? = some (.cells cs T fr) ∧ T ≠ 59 := by
    obtain ⟨d1, d2, d3, d4, d5, d6, d7, A', c', d8, d9, d10⟩ := hd
    rcases hk with e | e | e
    · subst e; exact ⟨_, _, _, d8, by decide⟩
    · subst e; exact ⟨_, _, _, d7, by decide⟩
    · rw [← d10] at e
      obtain ⟨cs, hb⟩ := row_block d9 e
      exact ⟨_, _, _, hb, by decide⟩
  obtain ⟨cs, T, fr, hb, hne⟩ := this
  rw [h1] at hb
  injection hb with hb
  injection hb with _ e2
  exact hne e2.symm

/-- what Get hands back: the key's value, cloned, or nil -/
def GetRet (x : Vals) (k : Int) (w : World) (e : Ending) (w' : World) : Prop :=
  ∃ A c bs, e = .returned (.tuple #[.slice A bs.length c, .bool (hasV x k)]) ∧ w'.ownsRow w.heap.size 5 1 (.slice A bs.length c) bs.length (bytesV bs) ∧ Below w.heap.size w w' ∧ ((hasV x k = true ∧ (k, bs) ∈ x) ∨ (hasV x k = false ∧ bs = []))
theorem Get_any (B v gen : Nat) (x : Vals) (k : Int) (w : World) (h : ReadV w B v gen x) (h1 : -9223372036854775808 ≤ k) (h2 : k ≤ 9223372036854775807) :
    Calls Tryz.prog 17 #[.pointer (some ⟨v, 0, none⟩), .int .i64 k] w (GetRet x k w) := by
  obtain ⟨g, j, m, next, hh, hv, hx, hl⟩ := h
  have c2 : w.cell? ⟨v, 2, none⟩ = some (.map (some m)) := row_cell hh 2
  have Hv := Lib.hid hv
  clear hh hv
  go_enter Tryz.func17, Tryz.ntmps17
  go_wp2_with (at_lookup; refine wpList_lookV rfl _ _ rfl B m x k rfl rfl Hv.out h1 h2 ?_; intro A n c bs hbs hgot; have Hbs := Lib.hid hbs; have Hgot := Lib.hid hgot; clear hbs hgot)
  have hbl : n ≤ 900 := by
    rw [← Hbs.out]
    rcases Hgot.out.2 with ⟨_, h⟩ | ⟨_, h, _⟩
    · exact (hx.all _ h).2.2
    · rw [h]; exact Nat.zero_le _
  have Hs := Lib.hid (show Seen w A (bytesV bs) from by have := Hgot.out.1; rw [Hbs.out] at this; exact Seen.of_own this)
  refine (SClone_any A n c bs w Hbs.out (by omega) Hs.out).mono ?_
  rintro e w1 ⟨A1, c1, rfl, hown1, hb1⟩
  rw [bytes_length, Hbs.out] at hown1 ⊢
  have Hown1 := Lib.hid hown1; have Hb1 := Lib.hid hb1
  clear hown1 hb1
  go_wp2
  go_ret2
  refine ⟨A1, c1, bs, by rw [Hbs.out]; rfl, by rw [Hbs.out]; exact Hown1.out, Hb1.out, ?_⟩
  rcases Hgot.out.2 with h | ⟨h, h', _⟩
  · exact .inl h
  · exact .inr ⟨h, h'⟩
theorem VKeys_any (B v gen : Nat) (x : Vals) (w : World) (h : ReadV w B v gen x) :
    Calls Tryz.prog 30 #[.pointer (some ⟨v, 0, none⟩)] w fun e w' => ∃ A c, e = .returned (.slice A x.length c) ∧ w'.ownsRow w.heap.size 3 1 (.slice A x.length c) x.length (keysV x) ∧ Below w.heap.size w w' := by
  obtain ⟨g, j, m, next, hh, hv, hx, hl⟩ := h
  have c2 : w.cell? ⟨v, 2, none⟩ = some (.map (some m)) := row_cell hh 2
  have Hv := Lib.hid hv
  clear hh hv
  go_enter Tryz.func30, Tryz.ntmps30
  go_wp2_with fail
  refine (Keys_any m w).mono ?_
  rintro e w1 ⟨rfl, rfl⟩
  go_wp2_with fail
  refine (Sorted_any B m x w Hv.out hx.up (by omega)).mono ?_
  rintro e w2 ⟨A, c, rfl, hown, hb⟩
  have Hown := Lib.hid hown; have Hb := Lib.hid hb
  clear hown hb
  go_wp2
  go_ret
  exact ⟨A, c, rfl, Hown.out, Hb.out⟩
end Go.Proofs.YtjekcaoonaniaaaGreat
