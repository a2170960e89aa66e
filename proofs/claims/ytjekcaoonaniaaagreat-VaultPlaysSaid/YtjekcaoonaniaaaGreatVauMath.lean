/-
  Values by their keys as mathematics (Vals), the changes of a vault and their bytes, a checkpoint's texts, and what is read of them. It speaks of no program. No condition but what each lemma names.
-/
import Derived.Test.YtjekcaoonaniaaaGreatPackR
import Derived.Test.YtjekcaoonaniaaaGreatJouPart
import Derived.Maps.RangeWalk
import Derived.Lib.SlKeysI
namespace Go.Proofs.YtjekcaoonaniaaaGreat
open Go.ChangeShapes Go.WideShapes Go.ChangeAt Go.RowKit
set_option linter.unusedVariables false

abbrev Vals := List (Int × List UInt8)
def outV (x : Vals) (k : Int) : Vals := x.filter fun p => p.1 != k
def insV (p : Int × List UInt8) : Vals → Vals
  | [] => [p]
  | y :: r => if p.1 < y.1 then p :: y :: r else y :: insV p r
def putV (x : Vals) (k : Int) (b : List UInt8) : Vals := insV (k, b) (outV x k)
def hasV (x : Vals) (k : Int) : Bool := x.any fun p => p.1 == k
/-- rising by their keys -/
def Rising (x : Vals) : Prop := x.Pairwise fun p q => p.1 < q.1
/-- values as a vault has them -/
structure GoodV (x : Vals) : Prop where
  up : Rising x
  all : ∀ p ∈ x, 0 ≤ p.1 ∧ p.1 ≤ 1099511627776 ∧ p.2.length ≤ 900

theorem mem_insV {p q : Int × List UInt8} : ∀ {x : Vals}, q ∈ insV p x ↔ q = p ∨ q ∈ x
  | [] => by simp [insV]
  | y :: r => by
    unfold insV
    split
    · simp
    · simp only [List.mem_cons, mem_insV (x := r)]
      constructor
      · rintro (h | h | h)
        · exact .inr (.inl h)
        · exact .inl h
        · exact .inr (.inr h)
      · rintro (h | h | h)
        · exact .inr (.inl h)
        · exact .inl h
        · exact .inr (.inr h)
theorem mem_outV {x : Vals} {k : Int} {q : Int × List UInt8} : q ∈ outV x k ↔ q ∈ x ∧ q.1 ≠ k := by simp [outV]
theorem mem_putV {x : Vals} {k : Int} {b : List UInt8} {q : Int × List UInt8} : q ∈ putV x k b ↔ q = (k, b) ∨ (q ∈ x ∧ q.1 ≠ k) := by unfold putV; rw [mem_insV, mem_outV]
theorem insV_length (p : Int × List UInt8) : ∀ x : Vals, (insV p x).length = x.length + 1
  | [] => rfl
  | y :: r => by
    unfold insV
    split
    · rfl
    · simp [insV_length p r]
theorem outV_length (x : Vals) (k : Int) : (outV x k).length ≤ x.length := List.length_filter_le _ _
theorem putV_length (x : Vals) (k : Int) (b : List UInt8) : (putV x k b).length ≤ x.length + 1 := by
  have := outV_length x k
  rw [putV, insV_length]; omega
theorem putV_pos (x : Vals) (k : Int) (b : List UInt8) : 1 ≤ (putV x k b).length := by rw [putV, insV_length]; omega
theorem rising_insV {p : Int × List UInt8} : ∀ {x : Vals}, Rising x → (∀ q ∈ x, q.1 ≠ p.1) → Rising (insV p x)
  | [], _, _ => by simp [insV, Rising]
  | y :: r, h, hne => by
    obtain ⟨h1, h2⟩ := List.pairwise_cons.1 h
    unfold insV
    split
    · rename_i hlt
      refine List.pairwise_cons.2 ⟨fun q hq => ?_, h⟩
      rcases List.mem_cons.1 hq with rfl | hq
      · exact hlt
      · exact Int.lt_trans hlt (h1 q hq)
    · rename_i hlt
      have hny := hne y (by simp)
      refine List.pairwise_cons.2 ⟨fun q hq => ?_, rising_insV h2 fun q hq => hne q (by simp [hq])⟩
      rcases mem_insV.1 hq with rfl | hq
      · omega
      · exact h1 q hq
theorem GoodV.nil : GoodV [] := ⟨List.Pairwise.nil, fun _ h => by cases h⟩
theorem GoodV.out {x : Vals} (h : GoodV x) (k : Int) : GoodV (outV x k) := ⟨h.up.filter _, fun p hp => h.all p (mem_outV.1 hp).1⟩
theorem GoodV.put {x : Vals} (h : GoodV x) {k : Int} {b : List UInt8} (h0 : 0 ≤ k) (h1 : k ≤ 1099511627776) (hb : b.length ≤ 900) : GoodV (putV x k b) := by
  refine ⟨rising_insV (h.out k).up fun q hq => (mem_outV.1 hq).2, fun p hp => ?_⟩
  rcases mem_putV.1 hp with rfl | hp
  · exact ⟨h0, h1, hb⟩
  · exact h.all p hp.1
theorem hasV_iff {x : Vals} {k : Int} : hasV x k = true ↔ ∃ p ∈ x, p.1 = k := by simp [hasV]
theorem rising_one {x : Vals} (h : Rising x) {p q : Int × List UInt8} (hp : p ∈ x) (hq : q ∈ x) (e : p.1 = q.1) : p = q := by
  induction x with
  | nil => cases hp
  | cons y r ih =>
    obtain ⟨h1, h2⟩ := List.pairwise_cons.1 h
    rcases List.mem_cons.1 hp with e1 | hp <;> rcases List.mem_cons.1 hq with e2 | hq
    · rw [e1, e2]
    · have := h1 q hq; rw [e1] at e; omega
    · have := h1 p hp; rw [e2] at e; omega
    · exact ih h2 hp hq
/-- one behind all -/
theorem putV_last {x : Vals} {k : Int} (h : ∀ p ∈ x, p.1 < k) (b : List UInt8) : putV x k b = x ++ [(k, b)] := by
  have e : outV x k = x := List.filter_eq_self.2 fun p hp => by have := h p hp; simp; omega
  have hi : ∀ {x : Vals}, (∀ p ∈ x, p.1 < k) → insV (k, b) x = x ++ [(k, b)] := fun {x} => by
    induction x with
    | nil => intro _; rfl
    | cons y r ih =>
      intro h
      have := h y (by simp)
      unfold insV
      rw [if_neg (by omega), ih fun p hp => h p (by simp [hp])]
      rfl
  rw [putV, e, hi h]

/-- what a change does: the key has a value, or none -/
structure Chg where
  key : Int
  val : Option (List UInt8)
def Chg.on (c : Chg) (x : Vals) : Vals := match c.val with
  | none => outV x c.key
  | some b => putV x c.key b
def Chg.kind (c : Chg) : Nat := if c.val.isSome then 1 else 0
def Chg.bytes (c : Chg) : List UInt8 := c.val.getD []
def Chg.text (c : Chg) : List UInt8 := numB c.key.toNat ++ (numB c.kind ++ match c.val with
  | none => []
  | some b => numB b.length ++ b)
structure Chg.Ok (c : Chg) : Prop where
  lo : 0 ≤ c.key
  hi : c.key ≤ 1099511627776
  len : c.bytes.length ≤ 900
def onAll (cs : List Chg) (x : Vals) : Vals := cs.foldl (fun x c => c.on x) x
theorem onAll_snoc (cs : List Chg) (c : Chg) (x : Vals) : onAll (cs ++ [c]) x = c.on (onAll cs x) := by simp [onAll]
theorem Chg.on_good {c : Chg} (h : c.Ok) {x : Vals} (hx : GoodV x) : GoodV (c.on x) := by
  have := h.len
  unfold Chg.on
  unfold Chg.bytes at this
  cases hv : c.val with
  | none => exact hx.out _
  | some b => rw [hv] at this; exact hx.put h.lo h.hi this
theorem onAll_good : ∀ {cs : List Chg} {x : Vals}, (∀ c ∈ cs, c.Ok) → GoodV x → GoodV (onAll cs x)
  | [], _, _, h => h
  | c :: r, x, hc, h => onAll_good (cs := r) (fun d hd => hc d (by simp [hd])) ((Chg.on_good (hc c (by simp)) h))
theorem Chg.on_length (c : Chg) (x : Vals) : (c.on x).length ≤ x.length + 1 := by
  unfold Chg.on
  cases c.val with
  | none => have := outV_length x c.key; simp only; omega
  | some b => exact putV_length x c.key b

/-- a key's text in a checkpoint -/
def keyText (p : Int × List UInt8) : List UInt8 := numB p.1.toNat ++ (numB p.2.length ++ p.2)
def cpTexts (x : Vals) : List (List UInt8) := numB x.length :: x.map keyText
theorem cpTexts_length (x : Vals) : (cpTexts x).length = x.length + 1 := by simp [cpTexts]
theorem keyText_len {p : Int × List UInt8} (h1 : p.1 ≤ 1099511627776) (h2 : p.2.length ≤ 900) : (keyText p).length ≤ 918 := by
  have := numB_len9 (n := p.1.toNat) (by omega)
  have := numB_len9 (n := p.2.length) (by omega)
  simp only [keyText, List.length_append]; omega
theorem Chg.text_len {c : Chg} (h : c.Ok) : c.text.length ≤ 928 := by
  have := h.hi; have := h.len
  have := numB_len9 (n := c.key.toNat) (by omega)
  have h2 : (numB c.kind).length ≤ 9 := numB_len9 (by unfold Chg.kind; split <;> omega)
  have hl := h.len
  unfold Chg.text
  unfold Chg.bytes at hl
  cases hv : c.val with
  | none => simp only [List.length_append, List.length_nil]; omega
  | some b =>
    rw [hv] at hl
    have hl2 : b.length ≤ 900 := hl
    have := numB_len9 (n := b.length) (by omega)
    simp only [List.length_append]; omega

theorem rdNum_numB {a : Nat} {most : Int} (h : (a : Int) ≤ most) (h2 : most ≤ 9223372036854775807) (rest : List UInt8) : rdNum (numB a ++ rest) 0 most = (a, rest, 0) := by
  unfold rdNum
  rw [numR_numB (by omega), if_neg (by omega), if_neg (by simp), if_neg (by simp only; omega)]
  simp
theorem rdText_text {b : List UInt8} {most : Int} (h : (b.length : Int) ≤ most) (h2 : most ≤ 9223372036854775807) (rest : List UInt8) : rdText (numB b.length ++ (b ++ rest)) 0 most = (b, rest, 0) := by
  unfold rdText
  rw [rdNum_numB h h2]
  simp only
  rw [if_neg (by simp)]
  simp

/-- a form that fits has no error: of what a vault keeps no record is too long -/
theorem form_ok {gen n : Nat} {t : List UInt8} (hg : gen ≤ 1099511627776) (hn : n ≤ 1000000) (ht : t.length ≤ 930) : formE gen ((n : Nat) : Int) t = 0 := by
  refine formE_mk hg (by omega) ?_
  have := rest_bound (gen := gen) (n := n) (t := t) (by omega) (by omega) (by omega)
  unfold manyOf secsOf
  omega
theorem many_small {gen n : Nat} {t : List UInt8} (hg : gen ≤ 1099511627776) (hn : n ≤ 1000000) (ht : t.length ≤ 930) : manyOf gen n t ≤ 16 := by
  have := rest_bound (gen := gen) (n := n) (t := t) (by omega) (by omega) (by omega)
  unfold manyOf secsOf
  omega
theorem cpTexts_small {x : Vals} (h : GoodV x) (hl : x.length ≤ 1000000) : ∀ t ∈ cpTexts x, t.length ≤ 930 := by
  intro t ht
  simp only [cpTexts, List.mem_cons, List.mem_map] at ht
  rcases ht with rfl | ⟨p, hp, rfl⟩
  · have := numB_len9 (n := x.length) (by omega); omega
  · have := h.all p hp
    have := keyText_len this.2.1 this.2.2
    omega

/-! ### the datum of a map -/
open Go.Maps
/-- a map's values, as the reader of maps has them: each held as it is -/
def heldR (v : Value) : Option (DataW Value × List MemPlace) := some (.held v, [])
def encV (h : Int → Value) (p : Int × List UInt8) : Lit × DataW Value := (.int .i64 p.1, .held (h p.1))
def valsD (x : Vals) (h : Int → Value) : DataW Value := .map (x.map (encV h))
theorem encV_filter (x : Vals) (h : Int → Value) (k : Int) : (x.map (encV h)).filter (fun p => !p.1.sameKey (.int .i64 k)) = (outV x k).map (encV h) := by
  rw [List.filter_map]
  congr 1
  apply List.filter_congr
  intro p _
  simp [encV, Lit.sameKey, Bool.not_eq_eq_eq_not]
  by_cases e : p.1 = k <;> simp [e]
theorem insert_encV (h : Int → Value) (p : Int × List UInt8) : ∀ x : Vals, DataW.insert (encV h p) (x.map (encV h)) = (insV p x).map (encV h)
  | [] => rfl
  | y :: r => by
    simp only [List.map_cons, DataW.insert, insV]
    by_cases hlt : p.1 < y.1
    · have e : (encV h p).1.before (encV h y).1 = true := by simp [encV, Lit.before, hlt]
      rw [if_pos e, if_pos hlt]; rfl
    · have e : ¬ (encV h p).1.before (encV h y).1 = true := by simp [encV, Lit.before]; omega
      rw [if_neg e, if_neg hlt, insert_encV h p r]; rfl
/-- the function with one more value -/
def setH (h : Int → Value) (k : Int) (v : Value) : Int → Value := fun j => if j = k then v else h j
theorem setH_same (h : Int → Value) (k : Int) (v : Value) : setH h k v k = v := if_pos rfl
theorem setH_other {h : Int → Value} {k j : Int} {v : Value} (e : j ≠ k) : setH h k v j = h j := if_neg e
theorem valsD_put (x : Vals) (h : Int → Value) (k : Int) (b : List UInt8) (v : Value) : (valsD x h).put (.int .i64 k) (.held v) = valsD (putV x k b) (setH h k v) := by
  unfold valsD DataW.put putV
  simp only
  rw [encV_filter]
  congr 1
  have e : (outV x k).map (encV h) = (outV x k).map (encV (setH h k v)) := by
    apply List.map_congr_left
    intro p hp
    simp only [encV, setH_other (mem_outV.1 hp).2]
  rw [e, ← insert_encV]
  congr 1
  simp only [encV, setH_same]
theorem valsD_del (x : Vals) (h : Int → Value) (k : Int) : (valsD x h).del (.int .i64 k) = valsD (outV x k) h := by
  unfold valsD DataW.del
  simp only
  rw [encV_filter]
theorem valsD_has (x : Vals) (h : Int → Value) (k : Int) : has (valsD x h) (.int .i64 k) = hasV x k := by
  unfold valsD hasV
  rw [has_eq, List.any_map]
  congr 1
  funext p
  simp [encV, Lit.sameKey]
  rw [Bool.eq_iff_iff]
  simp
theorem valsD_size (x : Vals) (h : Int → Value) : Maps.size (valsD x h) = x.length := by simp [valsD, Maps.size]
theorem valsD_keys (x : Vals) (h : Int → Value) : intKeys (valsD x h) = x.map (·.1) := by
  unfold valsD intKeys
  simp only [List.map_map]
  apply List.map_congr_left
  intro p _
  rfl
theorem valsD_at {x : Vals} {h : Int → Value} {k : Int} {z : DataW Value} (hk : hasV x k = true) : (valsD x h).atKey (.int .i64 k) z = .held (h k) := by
  obtain ⟨p, hp, rfl⟩ := hasV_iff.1 hk
  unfold valsD DataW.atKey
  simp only
  have : (x.map (encV h)).find? (fun q => q.1.sameKey (.int .i64 p.1)) = some (encV h p) ∨ ∃ q ∈ x, q.1 = p.1 ∧ (x.map (encV h)).find? (fun q => q.1.sameKey (.int .i64 p.1)) = some (encV h q) := by
    cases hf : (x.map (encV h)).find? (fun q => q.1.sameKey (.int .i64 p.1)) with
    | none =>
      have := List.find?_eq_none.1 hf (encV h p) (List.mem_map.2 ⟨p, hp, rfl⟩)
      simp [encV, Lit.sameKey] at this
    | some y =>
      have h1 := List.find?_some hf
      obtain ⟨q, hq, rfl⟩ := List.mem_map.1 (List.mem_of_find?_eq_some hf)
      refine .inr ⟨q, hq, ?_, rfl⟩
      simpa [encV, Lit.sameKey] using h1
  rcases this with e | ⟨q, hq, e1, e⟩
  · rw [e]; rfl
  · rw [e]; simp only [encV, e1]
theorem valsD_none {x : Vals} {h : Int → Value} {k : Int} {z : DataW Value} (hk : hasV x k = false) : (valsD x h).atKey (.int .i64 k) z = z := by
  unfold valsD DataW.atKey
  simp only
  have : (x.map (encV h)).find? (fun q => q.1.sameKey (.int .i64 k)) = none := by
    rw [List.find?_eq_none]
    intro y hy
    obtain ⟨q, hq, rfl⟩ := List.mem_map.1 hy
    intro hs
    have e : q.1 = k := by simpa [encV, Lit.sameKey] using hs
    rw [(hasV_iff (x := x) (k := k)).2 ⟨q, hq, e⟩] at hk
    cases hk
  rw [this]
end Go.Proofs.YtjekcaoonaniaaaGreat
