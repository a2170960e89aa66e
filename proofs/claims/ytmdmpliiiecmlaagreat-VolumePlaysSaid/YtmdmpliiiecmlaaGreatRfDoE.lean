/-
  The end of a command that goes through, as worlds; rows of volumes and chunks of one's own that can be read. Conditions: what each lemma names.
-/
import Derived.Test.YtmdmpliiiecmlaaGreatRfFil
import Derived.Test.YtmdmpliiiecmlaaGreatRfDo7
namespace Go.Proofs.YtmdmpliiiecmlaaGreat
open Go.ChangeShapes Go.WideShapes Go.ChangeAt Go.RowKit
set_option linter.unusedVariables false
set_option linter.unusedSimpArgs false

theorem RfOk.turnedSt {V V' : World} {f : Rf} {g : Nat} (ok : RfOk V f) (hg : ∃ cs, V.heap[g]? = some (.cells cs 31 (0, 0))) (ht : Turned (fun b => b = g) V V') : RfOk V' f := by
  obtain ⟨cs, hg⟩ := hg
  have no : ∀ {T : TypeId}, T ≠ 31 → NoT V T (fun b => b = g) := fun {T} hT b cs' fr hb e => by
    subst hb
    rw [hg] at e; injection e with e; injection e with _ e; exact hT e.symm
  exact ⟨ok.p.turned ht (no (by decide)), ok.v.turned ht (no (by decide)) (no (by decide)), ok.k.turned ht (no (by decide)) (no (by decide)), ok.vl, ok.kl, ok.pin⟩
/-- a command's end: the result's box at g is written, nothing else -/
theorem do_end {w V V' : World} {f f' : Rf} {r : RS} {e : Int} {g : Nat} (hw : Below w.heap.size w V) (ok : RfOk V f') (hwg : w.heap.size ≤ g) (hg : ∃ cs, V.heap[g]? = some (.cells cs 31 (0, 0))) (ht : Turned (fun b => b = g) V V') (hd : f'.dat = r) :
    DoRetR f r e w (.returned (.tuple #[f'.val, .int .i64 e])) V' :=
  ⟨f', rfl, hd, ok.turnedSt hg ht, (Turned.of_below (p := RowB f) hw).trans ht (fun _ e => e) (fun b hl e => absurd e (by omega))⟩
theorem VsT.own {w : World} {B n c : Nat} {A : Option Addr} {X : List Vk} (h : w.ownsRow B 43 8 (.slice A n c) n (vksV X)) (hk : ∀ x ∈ X, IntsT w x.c x.ids) (hp : ∀ x ∈ X, InP x.p) : VsT w ⟨A, n, c⟩ X := by
  refine ⟨?_, (own_capL h).1, (own_capL h).2, SeenT.own h, hk, hp⟩
  have := h.1
  rw [vksV_length] at this
  simp only
  omega
/-- the volume at q, where its cells lie -/
theorem RfOk.volAt {w : World} {f : Rf} (h : RfOk w f) {q : Nat} {v : Vk} (hq : f.X[q]? = some v) : ∃ g o, f.v.A = some ⟨g, o, none⟩ ∧ ∀ V, Below w.heap.size w V → VkAt V g (o + q * 8) v ∧ Seen V (some ⟨g, o, none⟩) (vksV f.X) := by
  obtain ⟨g, o, hA, _⟩ := h.v.get hq
  refine ⟨g, o, hA, fun V hv => ?_⟩
  obtain ⟨g', o', hA', h2⟩ := (h.below hv).v.get hq
  rw [hA] at hA'
  injection hA' with hA'
  injection hA' with e1 e2
  subst e1; subst e2
  refine ⟨h2, ?_⟩
  rw [← hA]
  exact (h.below hv).v.see.1
end Go.Proofs.YtmdmpliiiecmlaaGreat
