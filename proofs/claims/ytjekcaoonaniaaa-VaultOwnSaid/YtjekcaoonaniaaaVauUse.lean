/-
  Sectors of short records; what Put and Drop hand back where there is room; a device that is booted with nothing waiting. Conditions: what each lemma names.
-/
import Derived.Test.YtjekcaoonaniaaaVauOpen
namespace Go.Proofs.Ytjekcaoonaniaaa
open Go.ChangeShapes Go.WideShapes Go.ChangeAt Go.RowKit Go.Maps
set_option linter.unusedVariables false

theorem many_one {gen n : Nat} {t : List UInt8} (hg : gen ≤ 1099511627776) (hn : n ≤ 1000000) (ht : t.length ≤ 30) : manyOf gen n t = 1 := by
  have := rest_bound (gen := gen) (n := n) (t := t) (by omega) (by omega) (by omega)
  unfold manyOf secsOf
  omega
theorem many_two {gen n : Nat} {t : List UInt8} (hg : gen ≤ 1099511627776) (hn : n ≤ 1000000) (ht : t.length ≤ 92) : manyOf gen n t ≤ 2 := by
  have := rest_bound (gen := gen) (n := n) (t := t) (by omega) (by omega) (by omega)
  unfold manyOf secsOf
  omega
theorem secs_ones {gen : Nat} (hg : gen ≤ 1099511627776) : ∀ {ts : List (List UInt8)} {k : Nat}, (∀ t ∈ ts, t.length ≤ 30) → k + ts.length ≤ 1000000 → secsUp gen k ts = ts.length
  | [], _, _, _ => rfl
  | t :: r, k, h, hk => by
    rw [List.length_cons] at hk
    rw [secsUp, many_one hg (by omega) (h t (by simp)), secs_ones hg (fun u hu => h u (by simp [hu])) (by omega), List.length_cons]
    omega
theorem secs_twos {gen : Nat} (hg : gen ≤ 1099511627776) : ∀ {ts : List (List UInt8)} {k : Nat}, (∀ t ∈ ts, t.length ≤ 92) → k + ts.length ≤ 1000000 → secsUp gen k ts ≤ 2 * ts.length
  | [], _, _, _ => Nat.le_refl _
  | t :: r, k, h, hk => by
    rw [List.length_cons] at hk ⊢
    have h1 := many_two (n := k) hg (by omega) (h t (by simp))
    have h2 := secs_twos hg (ts := r) (k := k + 1) (fun u hu => h u (by simp [hu])) (by omega)
    rw [secsUp]
    omega
/-- a change's text -/
theorem Chg.text_le {c : Chg} (h : c.Ok) {l : Nat} (hl : c.bytes.length ≤ l) : c.text.length ≤ 27 + l := by
  have := h.hi
  have := numB_len9 (n := c.key.toNat) (by omega)
  have h2 : (numB c.kind).length ≤ 9 := numB_len9 (by unfold Chg.kind; split <;> omega)
  have h3 := h.len
  unfold Chg.text
  unfold Chg.bytes at hl h3
  cases hv : c.val with
  | none => simp only [List.length_append, List.length_nil]; omega
  | some b =>
    rw [hv] at hl h3
    have hl2 : b.length ≤ l := hl
    have h32 : b.length ≤ 900 := h3
    have := numB_len9 (n := b.length) (by omega)
    simp only [List.length_append]; omega

theorem PutRet.fit {B v g s : Nat} {st : Vt} {k : Int} {bs : List UInt8} {w w' : World} {e : Ending} (h : PutRet B v g s st k bs w e w') (h0 : 0 ≤ k) (h1 : k ≤ 1099511627776) (hb : bs.length ≤ 900) (hf : st.fits ⟨k, some bs⟩) :
    e = .returned (.int .i64 0) ∧ IsV w' B v g s (st.noted ⟨k, some bs⟩) ∧ KeptV B w w' := by
  obtain ⟨hk, ⟨h, _⟩ | ⟨_, h, _⟩ | ⟨_, _, ⟨_, h, h'⟩ | ⟨h, _⟩ | ⟨h, _⟩⟩⟩ := h
  · omega
  · omega
  · exact ⟨h, h', hk⟩
  · exact absurd hf h
  · exact absurd hf h
theorem PutRet.turn {B v g s : Nat} {st : Vt} {k : Int} {bs : List UInt8} {w w' : World} {e : Ending} (h : PutRet B v g s st k bs w e w') (h0 : 0 ≤ k) (h1 : k ≤ 1099511627776) (hb : bs.length ≤ 900) (hf : ¬ st.fits ⟨k, some bs⟩) (ht : st.turns ⟨k, some bs⟩) :
    e = .returned (.int .i64 0) ∧ IsV w' B v g s (st.turned ⟨k, some bs⟩) ∧ KeptV B w w' := by
  obtain ⟨hk, ⟨h, _⟩ | ⟨_, h, _⟩ | ⟨_, _, ⟨h, _⟩ | ⟨_, _, h, h'⟩ | ⟨_, h, _⟩⟩⟩ := h
  · omega
  · omega
  · exact absurd h hf
  · exact ⟨h, h', hk⟩
  · exact absurd ht h
theorem DropRet.fit {B v g s : Nat} {st : Vt} {k : Int} {w w' : World} {e : Ending} (h : DropRet B v g s st k w e w') (hh : hasV st.x k = true) (hf : st.fits ⟨k, none⟩) :
    e = .returned (.int .i64 0) ∧ IsV w' B v g s (st.noted ⟨k, none⟩) ∧ KeptV B w w' := by
  obtain ⟨hk, ⟨h, _⟩ | ⟨_, ⟨_, h, h'⟩ | ⟨h, _⟩ | ⟨h, _⟩⟩⟩ := h
  · rw [hh] at h; cases h
  · exact ⟨h, h', hk⟩
  · exact absurd hf h
  · exact absurd hf h
theorem DropRet.none {B v g s : Nat} {st : Vt} {k : Int} {w w' : World} {e : Ending} (h : DropRet B v g s st k w e w') (hh : hasV st.x k = false) :
    e = .returned (.int .i64 7) ∧ IsV w' B v g s st ∧ KeptV B w w' := by
  obtain ⟨hk, ⟨_, h, h'⟩ | ⟨h, _⟩⟩ := h
  · exact ⟨h, h', hk⟩
  · rw [hh] at h; cases h
theorem DevOk.boot {d : Dv} {st : Vt} (h : DevOk d st) (keeps : List Int) : DevOk (d.boot keeps) st := by
  obtain ⟨h1, h2, h3, h4⟩ := h
  refine ⟨⟨by show (-1 : Int) < 0; omega, rfl⟩, h2, rfl, ?_⟩
  rw [← h4]
  show Go.Proofs.Ytjekcaoonaniaaa.settle [] 0 [] (Go.Proofs.Ytjekcaoonaniaaa.settle keeps 0 d.L d.S) = Go.Proofs.Ytjekcaoonaniaaa.settle [] 0 d.L d.S
  rw [h3]
  rfl
theorem KeptV.moved {B g s : Nat} {r : Option Nat} {d d' : Dv} {w w' : World} (h : IsD w B g s r d) (hm : MovedD B g s r d' w w') : KeptV B w w' := by
  obtain ⟨_, _, _, ht⟩ := hm
  exact keptV_dev h ht
/-- of one value -/
theorem GetRet.one {k : Int} {b : List UInt8} {w w' : World} {e : Ending} (h : GetRet [(k, b)] k w e w') :
    ∃ A c, e = .returned (.tuple #[.slice A b.length c, .bool true]) ∧ w'.ownsRow w.heap.size 5 1 (.slice A b.length c) b.length (bytesV b) ∧ Below w.heap.size w w' := by
  obtain ⟨A, c, bs, rfl, h2, h3, ⟨_, h4⟩ | ⟨h4, _⟩⟩ := h
  · obtain rfl : bs = b := by simpa using h4
    have e : hasV [(k, bs)] k = true := by simp [hasV]
    rw [e]
    exact ⟨A, c, rfl, h2, h3⟩
  · simp [hasV] at h4
theorem GetRet.zero {k : Int} {w w' : World} {e : Ending} (h : GetRet [] k w e w') :
    ∃ A c, e = .returned (.tuple #[.slice A 0 c, .bool false]) ∧ w'.ownsRow w.heap.size 5 1 (.slice A 0 c) 0 (bytesV []) ∧ Below w.heap.size w w' := by
  obtain ⟨A, c, bs, rfl, h2, h3, ⟨h4, _⟩ | ⟨h4, rfl⟩⟩ := h
  · cases h4
  · exact ⟨A, c, rfl, h2, h3⟩
theorem putV_one (k : Int) (b c : List UInt8) : putV [(k, b)] k c = [(k, c)] := by simp [putV, outV, insV]
theorem putV_nil (k : Int) (c : List UInt8) : putV [] k c = [(k, c)] := rfl
theorem outV_one (k : Int) (b : List UInt8) : outV [(k, b)] k = [] := by simp [outV]
end Go.Proofs.Ytjekcaoonaniaaa
