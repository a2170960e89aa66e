/-
  Cells stored side by side; a struct stored whole into a row of its own, under a name; two results, the first a struct. No condition but what each lemma names.
-/
import Derived.Test.YtcaaakoahaoooaaVolFnd
namespace Go.Proofs.Ytcaaakoahaoooaa
open Go.ChangeShapes Go.WideShapes Go.ChangeAt Go.RowKit
set_option linter.unusedVariables false

theorem turned_cellsI {p : Nat → Prop} {a : World} {b : Nat} (hb : b < a.heap.size → p b) : ∀ (vs : List Value) (o : Nat) (w : World), Turned p a w → Turned p a (w.setCells b o vs)
  | [], o, w, h => h
  | v :: r, o, w, h => turned_cellsI hb r (o + 1) (w.setCell ⟨b, o, none⟩ v) (h.setCell (b := ⟨b, o, none⟩) hb v)
theorem set_row {b : Nat} {e : TypeId} {Z : List Value} : ∀ (vs X Y : List Value) (w : World) (o : Nat), w.heap[b]? = some (.cells (X ++ Y ++ Z).toArray e (0, 0)) → vs.length = Y.length → X.length = o → (w.setCells b o vs).heap[b]? = some (.cells (X ++ vs ++ Z).toArray e (0, 0))
  | [], X, [], w, o, h, _, _ => h
  | [], X, y :: Y, w, o, h, hl, _ => by simp at hl
  | v :: r, X, [], w, o, h, hl, _ => by simp at hl
  | v :: r, X, y :: Y, w, o, h, hl, ho => by
    have h1 := row_set h o v
    have e1 : (X ++ y :: Y ++ Z).toArray.setIfInBounds o v = ((X ++ [v]) ++ Y ++ Z).toArray := by
      subst ho
      apply Array.ext'
      simp
    rw [e1] at h1
    have := set_row r (X ++ [v]) Y (w.setCell ⟨b, o, none⟩ v) (o + 1) h1 (by simpa using hl) (by simp [ho])
    have e2 : X ++ v :: r ++ Z = X ++ [v] ++ r ++ Z := by simp
    rw [e2]
    exact this

theorem results_cell_2 {P : Program} {fn : Func} {p u : Tmp} {ty : TypeId} (h : fn.results = #[.cell p ty, .tmp u]) (tmps : Array Value) (w : World) (g : Nat) (t : TypeId) (cs : Array Value) (fr : Nat × Nat) (d : TypeDesc) (b : Value)
    (hp : tmps.getD p undef = .pointer (some ⟨g, 0, none⟩)) (hb : tmps.getD u undef = b) (hg : w.heap[g]? = some (.cells cs t fr))
    (hu : P.underlying ty = some d) (hd : (match d with | .struct _ | .array _ _ => true | _ => false) = true) (hi : (P.info? ty).map (·.size) = some cs.size) :
    (results fn tmps).run P w = .ok (.tuple #[.agg cs, b]) w := by
  rw [results_cell_tmp h, hp, hb]
  simp [asAddr, run_loadVar_row w g t ty cs fr d hg hu hd hi, Result.andThen]

/-- a struct stored whole into a row of its own -/
theorem st_row {w : World} {g : Nat} {cs new : Array Value} {T T' : TypeId} (h : w.heap[g]? = some (.cells cs T' (0, 0))) (hs : cs.size = new.size) (hi : (Try.prog.info? T).map (·.size) = some new.size) (h1 : new.all (·.oneCell') = true) :
    ∃ w', (Instr.storeAt T (.pointer (some ⟨g, 0, none⟩)) (.agg new)).run Try.prog w = .ok () w' ∧ w'.heap[g]? = some (.cells new T' (0, 0)) ∧ Turned (fun k => k = g) w w' := by
  have hth : w.there g 0 new.size := fun i hi => ⟨by rw [row_cell h, Array.getElem?_eq_getElem (by omega)]; rfl, row_frozen h _⟩
  refine ⟨_, run_storeAt_mid w g 0 T new hth hi h1, ?_, turned_cellsI (p := fun k => k = g) (fun _ => rfl) _ _ _ (Turned.refl _ _)⟩
  have := set_row (b := g) (e := T') (Z := []) new.toList [] cs.toList w 0 (by simpa using h) (by simp [hs]) rfl
  simpa using this


/-- a chunk stored whole, under a name -/
def stCk (p v : Value) : Sem Unit := Instr.storeAt 48 p v
theorem stCk_eq (p v : Value) : Instr.storeAt 48 p v = stCk p v := rfl
theorem stCk_run {w : World} {g : Nat} {cs : Array Value} {T : TypeId} (h : w.heap[g]? = some (.cells cs T (0, 0))) (hs : cs.size = 5) (k : Ck) :
    ∃ w', (stCk (.pointer (some ⟨g, 0, none⟩)) (.agg #[.int .i64 k.id, .int .i64 k.vo, .int .i64 k.ep, .slice k.m.A k.m.n k.m.c, .slice k.j.A k.j.n k.j.c])).run Try.prog w = .ok () w' ∧
      w'.heap[g]? = some (.cells #[.int .i64 k.id, .int .i64 k.vo, .int .i64 k.ep, .slice k.m.A k.m.n k.m.c, .slice k.j.A k.j.n k.j.c] T (0, 0)) ∧ Turned (fun k => k = g) w w' :=
  st_row (T := 48) h (by rw [hs]; rfl) ck_size (by simp [Value.oneCell'])
def ck0 : Ck := ⟨0, 0, 0, Sl.nil, Sl.nil, [], []⟩
theorem row_below {w w' : World} {g : Nat} {o : Obj} (h : w.heap[g]? = some o) (hb : Below w.heap.size w w') : w'.heap[g]? = some o := by
  rw [hb.block g (Array.getElem?_eq_some_iff.1 h).1]; exact h
/-- both lists of a chunk in a box stored anew -/
theorem ck_set2 {w : World} {g : Nat} {k : Ck} {T : TypeId} (h : w.heap[g]? = some (.cells #[.int .i64 k.id, .int .i64 k.vo, .int .i64 k.ep, .slice k.m.A k.m.n k.m.c, .slice k.j.A k.j.n k.j.c] T (0, 0))) (s1 s2 : Sl) :
    ((w.setCell ⟨g, 3, none⟩ (.slice s1.A s1.n s1.c)).setCell ⟨g, 4, none⟩ (.slice s2.A s2.n s2.c)).heap[g]? = some (.cells #[.int .i64 k.id, .int .i64 k.vo, .int .i64 k.ep, .slice s1.A s1.n s1.c, .slice s2.A s2.n s2.c] T (0, 0)) ∧
      Turned (fun k => k = g) w ((w.setCell ⟨g, 3, none⟩ (.slice s1.A s1.n s1.c)).setCell ⟨g, 4, none⟩ (.slice s2.A s2.n s2.c)) :=
  ⟨by rw [row_set (row_set h 3 _) 4 _]; rfl, ((Turned.refl (fun k => k = g) w).setCell (b := ⟨g, 3, none⟩) (fun _ => rfl) _).setCell (b := ⟨g, 4, none⟩) (fun _ => rfl) _⟩
/-- a new box into which a chunk is stored -/
theorem ck_new (w : World) (k : Ck) : ∃ wz w3, w.alloc (.cells #[.int .i64 0, .int .i64 0, .int .i64 0, .slice none 0 0, .slice none 0 0] 48) = wz ∧
    (stCk (.pointer (some ⟨w.heap.size, 0, none⟩)) (.agg #[.int .i64 k.id, .int .i64 k.vo, .int .i64 k.ep, .slice k.m.A k.m.n k.m.c, .slice k.j.A k.j.n k.j.c])).run Try.prog wz = .ok () w3 ∧ Below w.heap.size w w3 ∧
    w3.heap[w.heap.size]? = some (.cells #[.int .i64 k.id, .int .i64 k.vo, .int .i64 k.ep, .slice k.m.A k.m.n k.m.c, .slice k.j.A k.j.n k.j.c] 48 (0, 0)) := by
  obtain ⟨wz, hw, hb, hr⟩ := ck_box w ck0
  obtain ⟨w3, h1, h2, h3⟩ := stCk_run hr rfl k
  exact ⟨wz, w3, hw, h1, hb.trans (h3.below (fun k e => by omega) hb.size), h2⟩
end Go.Proofs.Ytcaaakoahaoooaa
