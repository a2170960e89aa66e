/-
  Contract of rlog's clone: an entry with bytes of its own. Conditions: bytes that can be read.
-/
import Derived.Test.YtigjkmlhpefafaaRlgTrm
namespace Go.Proofs.Ytigjkmlhpefafaa
open Go.ChangeShapes Go.WideShapes Go.ChangeAt Go.RowKit
set_option linter.unusedVariables false

/-- a block of its own, written whole -/
theorem row_put {w w' : World} {g : Nat} {cs cs' : Array Value} {t : TypeId} {B : Nat} {w0 : World} (h : w.heap[g]? = some (.cells cs t (0, 0))) (hb : Below B w0 w) (hg : B ≤ g) : (w.setRow g cs').heap[g]? = some (.cells cs' t (0, 0)) ∧ Below B w0 (w.setRow g cs') :=
  ⟨setRow_heap w g cs _ t (0, 0) h, hb.trans ⟨rfl, rfl, rfl, by simp, fun q hq => setRow_other w g q _ (by omega)⟩⟩
/-- what clone hands back: the entry, its bytes in a block of their own -/
def CloneERet (e : Ent) (w : World) (en : Ending) (w' : World) : Prop :=
  ∃ A' c', en = .returned (.agg #[.int .i64 e.t, .int .i64 e.k, .slice A' e.n c']) ∧ w'.ownsRow w.heap.size 5 1 (.slice A' e.n c') e.n (bytesV e.bs) ∧ Below w.heap.size w w'
set_option maxRecDepth 100000 in
theorem clone_any (t k : Int) (A : Option Addr) (n c : Nat) (bs : List UInt8) (w : World) (hn : bs.length = n) (hl : n ≤ 10000) (hs : Seen w A (bytesV bs)) :
    Calls Try.prog 16 #[.agg #[.int .i64 t, .int .i64 k, .slice A n c]] w (CloneERet ⟨t, k, A, n, c, bs⟩ w) := by
  obtain ⟨w1, hw1, hb1, hh1⟩ := ent_box w ⟨t, k, A, n, c, bs⟩
  obtain ⟨w2, hw2, hb2, hh2⟩ := ent_box w1 ⟨0, 0, none, 0, 0, []⟩
  simp only at hw1 hh1 hw2 hh2
  have hh1' := (hb2.block w.heap.size (Array.getElem?_eq_some_iff.1 hh1).1).trans hh1
  have hbb := hb1.trans (hb2.mono hb1.size)
  have hc2 : w2.cell? ⟨w.heap.size, 2, none⟩ = some (.slice A n c) := row_cell hh1' 2
  have hlt1 : w.heap.size < w1.heap.size := (Array.getElem?_eq_some_iff.1 hh1).1
  have K := Lib.hid (BClone_any A n c bs w2 hn hl (hs.below hbb))
  have Hh1 := Lib.hid hh1'; have Hh2 := Lib.hid hh2; have Hb := Lib.hid hbb; have Hlt1 := Lib.hid hlt1
  clear hh1 hh1' hh2 hb1 hb2 hbb hn hs hlt1
  go_enter Try.func16, Try.ntmps16
  go_wp2_with (first
    | (go_at_call 23; refine K.out.mono ?_; rintro e w3 ⟨A3, c3, rfl, hown3, hb3⟩; have hr3 := (hb3.block w.heap.size (Array.getElem?_eq_some_iff.1 Hh1.out).1).trans Hh1.out; have hz3 := row_frozen hr3 2; have hc3 : w3.cell? ⟨w.heap.size, 2, none⟩ = some (.slice A n c) := row_cell hr3 2; have hr4 := row_set hr3 2 (.slice A3 n c3); have Hx2 := Lib.hid ((hb3.block w1.heap.size (Array.getElem?_eq_some_iff.1 Hh2.out).1).trans Hh2.out); have Hb3 := Lib.hid hb3; have Hown3 := Lib.hid hown3; have Hr4 := Lib.hid hr4; clear hown3 hb3 hr3 hr4)
    | (refine wpList_load_row rfl 28 (.tmp 1) rfl w.heap.size rfl 28 #[.int .i64 t, .int .i64 k, .slice A3 n c3] (0, 0) _ Hr4.out Try.underlying28 rfl ent_size ?_)
    | (refine wpList_store_row rfl 28 (.tmp 2) (.tmp 7) rfl w1.heap.size #[.int .i64 t, .int .i64 k, .slice A3 n c3] rfl rfl 28 #[.int .i64 0, .int .i64 0, .slice none 0 0] (by rw [Below.heap_setCell _ _ _ _ (by have := Hlt1.out; simp; omega)]; exact Hx2.out) ent_size rfl (by simp [Value.oneCell']) ?_))
  have hbs : Below w.heap.size w (w3.setCell ⟨w.heap.size, 2, none⟩ (.slice A3 n c3)) := (Hb.out.trans (Hb3.out.mono Hb.out.size)).setCell (p := ⟨w.heap.size, 2, none⟩) (Nat.le_refl _) _
  have hx4 : (w3.setCell ⟨w.heap.size, 2, none⟩ (.slice A3 n c3)).heap[w1.heap.size]? = some (.cells #[.int .i64 0, .int .i64 0, .slice none 0 0] 28 (0, 0)) := by rw [Below.heap_setCell _ _ _ _ (by have := Hlt1.out; simp; omega)]; exact Hx2.out
  have hfin := row_put (w' := w) (cs' := #[.int .i64 t, .int .i64 k, .slice A3 n c3]) hx4 hbs (by have := Hlt1.out; omega)
  refine bodyPost_ret (v := .agg #[.int .i64 t, .int .i64 k, .slice A3 n c3]) (results_cell_row rfl _ _ w1.heap.size 28 #[.int .i64 t, .int .i64 k, .slice A3 n c3] (0, 0) _ rfl hfin.1 Try.underlying28 rfl ent_size) rfl ?_
  refine ⟨A3, c3, rfl, ?_, hfin.2⟩
  have tt : Turned (fun j => j = w.heap.size ∨ j = w1.heap.size) w3 ((w3.setCell ⟨w.heap.size, 2, none⟩ (.slice A3 n c3)).setRow w1.heap.size #[.int .i64 t, .int .i64 k, .slice A3 n c3]) :=
    ((Turned.refl (fun j => j = w.heap.size) w3).setCell (b := ⟨w.heap.size, 2, none⟩) (fun _ => rfl) _).trans (q := fun j => j = w1.heap.size) ⟨rfl, rfl, rfl, by simp, fun q hq hn => setRow_other _ _ q _ hn⟩ (fun _ e => .inl e) (fun _ _ e => .inr e)
  have hz := Hb.out.size
  have h12 : w1.heap.size < w2.heap.size := (Array.getElem?_eq_some_iff.1 Hh2.out).1
  have hb0 : w.heap.size < w2.heap.size := by have := Hlt1.out; omega
  exact own_baseM (tt.own Hown3.out (fun j hj e => by have := (Hown3.out.lt j hj).1; omega)) (by omega)
end Go.Proofs.Ytigjkmlhpefafaa
