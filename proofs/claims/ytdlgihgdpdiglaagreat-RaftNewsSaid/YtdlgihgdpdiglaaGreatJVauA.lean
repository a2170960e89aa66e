/-
  Joined: VauMath, VauLib, VauTxt, VauChg, VauOf. Conditions: each theorem's own.
-/
import Derived.Test.YtdlgihgdpdiglaaGreatJPack
import Derived.Test.YtdlgihgdpdiglaaGreatJJouB
import Derived.Maps.RangeWalk
import Derived.Lib.SlKeysI
import Derived.Test.YtdlgihgdpdiglaaGreatJJouA
import Derived.Test.YtdlgihgdpdiglaaGreatShelf
import Derived.Lib.SliceRun
import Derived.Laws.ResultCell

section
namespace Go.Proofs.YtdlgihgdpdiglaaGreat
open Go.ChangeShapes Go.WideShapes Go.ChangeAt Go.RowKit
set_option linter.unusedVariables false

abbrev Vals := List (Int × List UInt8)
def outV (x : Vals) (k : Int) : Vals := x.filter fun p => p.1 != k
def insV (p : Int × List UInt8) : Vals → Vals
  | [] => [p]
  | y :: r => if p.1 < y.1 then p :: y :: r else y :: insV p r
def putV (x : Vals) (k : Int) (b : List UInt8) : Vals := insV (k, b) (outV x k)
def hasV (x : Vals) (k : Int) : Bool := x.any fun p => p.1 == k
/-- rising by their keys -/
def Rising (x : Vals) : Prop := x.Pairwise fun p q => p.1 < q.1
/-- values as a vault has them -/
structure GoodV (x : Vals) : Prop where
  up : Rising x
  all : ∀ p ∈ x, 0 ≤ p.1 ∧ p.1 ≤ 1099511627776 ∧ p.2.length ≤ 900

theorem mem_insV {p q : Int × List UInt8} : ∀ {x : Vals}, q ∈ insV p x ↔ q = p ∨ q ∈ x
  | [] => by simp [insV]
  | y :: r => by
    unfold insV
    split
    · simp
    · simp only [List.mem_cons, mem_insV (x := r)]
      constructor
      · rintro (h | h | h)
        · exact .inr (.inl h)
        · exact .inl h
        · exact .inr (.inr h)
      · rintro (h | h | h)
        · exact .inr (.inl h)
        · exact .inl h
        · exact .inr (.inr h)
theorem mem_outV {x : Vals} {k : Int} {q : Int × List UInt8} : q ∈ outV x k ↔ q ∈ x ∧ q.1 ≠ k := by simp [outV]
theorem mem_putV {x : Vals} {k : Int} {b : List UInt8} {q : Int × List UInt8} : q ∈ putV x k b ↔ q = (k, b) ∨ (q ∈ x ∧ q.1 ≠ k) := by unfold putV; rw [mem_insV, mem_outV]
theorem insV_length (p : Int × List UInt8) : ∀ x : Vals, (insV p x).length = x.length + 1
  | [] => rfl
  | y :: r => by
    unfold insV
    split
    · rfl
    · simp [insV_length p r]
theorem outV_length (x : Vals) (k : Int) : (outV x k).length ≤ x.length := List.length_filter_le _ _
theorem putV_length (x : Vals) (k : Int) (b : List UInt8) : (putV x k b).length ≤ x.length + 1 := by
  have := outV_length x k
  rw [putV, insV_length]; omega
theorem putV_pos (x : Vals) (k : Int) (b : List UInt8) : 1 ≤ (putV x k b).length := by rw [putV, insV_length]; omega
theorem rising_insV {p : Int × List UInt8} : ∀ {x : Vals}, Rising x → (∀ q ∈ x, q.1 ≠ p.1) → Rising (insV p x)
  | [], _, _ => by simp [insV, Rising]
  | y :: r, h, hne => by
    obtain ⟨h1, h2⟩ := List.pairwise_cons.1 h
    unfold insV
    split
    · rename_i hlt
      refine List.pairwise_cons.2 ⟨fun q hq => ?_, h⟩
      rcases List.mem_cons.1 hq with rfl | hq
      · exact hlt
      · exact Int.lt_trans hlt (h1 q hq)
    · rename_i hlt
      have hny := hne y (by simp)
      refine List.pairwise_cons.2 ⟨fun q hq => ?_, rising_insV h2 fun q hq => hne q (by simp [hq])⟩
      rcases mem_insV.1 hq with rfl | hq
      · omega
      · exact h1 q hq
theorem GoodV.nil : GoodV [] := ⟨List.Pairwise.nil, fun _ h => by cases h⟩
theorem GoodV.out {x : Vals} (h : GoodV x) (k : Int) : GoodV (outV x k) := ⟨h.up.filter _, fun p hp => h.all p (mem_outV.1 hp).1⟩
theorem GoodV.put {x : Vals} (h : GoodV x) {k : Int} {b : List UInt8} (h0 : 0 ≤ k) (h1 : k ≤ 1099511627776) (hb : b.length ≤ 900) : GoodV (putV x k b) := by
  refine ⟨rising_insV (h.out k).up fun q hq => (mem_outV.1 hq).2, fun p hp => ?_⟩
  rcases mem_putV.1 hp with rfl | hp
  · exact ⟨h0, h1, hb⟩
  · exact h.all p hp.1
theorem hasV_iff {x : Vals} {k : Int} : hasV x k = true ↔ ∃ p ∈ x, p.1 = k := by simp [hasV]
theorem rising_one {x : Vals} (h : Rising x) {p q : Int × List UInt8} (hp : p ∈ x) (hq : q ∈ x) (e : p.1 = q.1) : p = q := by
  induction x with
  | nil => cases hp
  | cons y r ih =>
    obtain ⟨h1, h2⟩ := List.pairwise_cons.1 h
    rcases List.mem_cons.1 hp with e1 | hp <;> rcases List.mem_cons.1 hq with e2 | hq
    · rw [e1, e2]
    · have := h1 q hq; rw [e1] at e; omega
    · have := h1 p hp; rw [e2] at e; omega
    · exact ih h2 hp hq
/-- one behind all -/
theorem putV_last {x : Vals} {k : Int} (h : ∀ p ∈ x, p.1 < k) (b : List UInt8) : putV x k b = x ++ [(k, b)] := by
  have e : outV x k = x := List.filter_eq_self.2 fun p hp => by have := h p hp; simp; omega
  have hi : ∀ {x : Vals}, (∀ p ∈ x, p.1 < k) → insV (k, b) x = x ++ [(k, b)] := fun {x} => by
    induction x with
    | nil => intro _; rfl
    | cons y r ih =>
      intro h
      have := h y (by simp)
      unfold insV
      rw [if_neg (by omega), ih fun p hp => h p (by simp [hp])]
      rfl
  rw [putV, e, hi h]

/-- what a change does: the key has a value, or none -/
structure Chg where
  key : Int
  val : Option (List UInt8)
def Chg.on (c : Chg) (x : Vals) : Vals := match c.val with
  | none => outV x c.key
  | some b => putV x c.key b
def Chg.kind (c : Chg) : Nat := if c.val.isSome then 1 else 0
def Chg.bytes (c : Chg) : List UInt8 := c.val.getD []
def Chg.text (c : Chg) : List UInt8 := numB c.key.toNat ++ (numB c.kind ++ match c.val with
  | none => []
  | some b => numB b.length ++ b)
structure Chg.Ok (c : Chg) : Prop where
  lo : 0 ≤ c.key
  hi : c.key ≤ 1099511627776
  len : c.bytes.length ≤ 900
def onAll (cs : List Chg) (x : Vals) : Vals := cs.foldl (fun x c => c.on x) x
theorem onAll_snoc (cs : List Chg) (c : Chg) (x : Vals) : onAll (cs ++ [c]) x = c.on (onAll cs x) := by simp [onAll]
theorem Chg.on_good {c : Chg} (h : c.Ok) {x : Vals} (hx : GoodV x) : GoodV (c.on x) := by
  have := h.len
  unfold Chg.on
  unfold Chg.bytes at this
  cases hv : c.val with
  | none => exact hx.out _
  | some b => rw [hv] at this; exact hx.put h.lo h.hi this
theorem onAll_good : ∀ {cs : List Chg} {x : Vals}, (∀ c ∈ cs, c.Ok) → GoodV x → GoodV (onAll cs x)
  | [], _, _, h => h
  | c :: r, x, hc, h => onAll_good (cs := r) (fun d hd => hc d (by simp [hd])) ((Chg.on_good (hc c (by simp)) h))
theorem Chg.on_length (c : Chg) (x : Vals) : (c.on x).length ≤ x.length + 1 := by
  unfold Chg.on
  cases c.val with
  | none => have := outV_length x c.key; simp only; omega
  | some b => exact putV_length x c.key b

/-- a key's text in a checkpoint -/
def keyText (p : Int × List UInt8) : List UInt8 := numB p.1.toNat ++ (numB p.2.length ++ p.2)
def cpTexts (x : Vals) : List (List UInt8) := numB x.length :: x.map keyText
theorem cpTexts_length (x : Vals) : (cpTexts x).length = x.length + 1 := by simp [cpTexts]
theorem keyText_len {p : Int × List UInt8} (h1 : p.1 ≤ 1099511627776) (h2 : p.2.length ≤ 900) : (keyText p).length ≤ 918 := by
  have := numB_len9 (n := p.1.toNat) (by omega)
  have := numB_len9 (n := p.2.length) (by omega)
  simp only [keyText, List.length_append]; omega
theorem Chg.text_len {c : Chg} (h : c.Ok) : c.text.length ≤ 928 := by
  have := h.hi; have := h.len
  have := numB_len9 (n := c.key.toNat) (by omega)
  have h2 : (numB c.kind).length ≤ 9 := numB_len9 (by unfold Chg.kind; split <;> omega)
  have hl := h.len
  unfold Chg.text
  unfold Chg.bytes at hl
  cases hv : c.val with
  | none => simp only [List.length_append, List.length_nil]; omega
  | some b =>
    rw [hv] at hl
    have hl2 : b.length ≤ 900 := hl
    have := numB_len9 (n := b.length) (by omega)
    simp only [List.length_append]; omega

theorem rdNum_numB {a : Nat} {most : Int} (h : (a : Int) ≤ most) (h2 : most ≤ 9223372036854775807) (rest : List UInt8) : rdNum (numB a ++ rest) 0 most = (a, rest, 0) := by
  unfold rdNum
  rw [numR_numB (by omega), if_neg (by omega), if_neg (by simp), if_neg (by simp only; omega)]
  simp
theorem rdText_text {b : List UInt8} {most : Int} (h : (b.length : Int) ≤ most) (h2 : most ≤ 9223372036854775807) (rest : List UInt8) : rdText (numB b.length ++ (b ++ rest)) 0 most = (b, rest, 0) := by
  unfold rdText
  rw [rdNum_numB h h2]
  simp only
  rw [if_neg (by simp)]
  simp

/-- a form that fits has no error: of what a vault keeps no record is too long -/
theorem form_ok {gen n : Nat} {t : List UInt8} (hg : gen ≤ 1099511627776) (hn : n ≤ 1000000) (ht : t.length ≤ 930) : formE gen ((n : Nat) : Int) t = 0 := by
  refine formE_mk hg (by omega) ?_
  have := rest_bound (gen := gen) (n := n) (t := t) (by omega) (by omega) (by omega)
  unfold manyOf secsOf
  omega
theorem many_small {gen n : Nat} {t : List UInt8} (hg : gen ≤ 1099511627776) (hn : n ≤ 1000000) (ht : t.length ≤ 930) : manyOf gen n t ≤ 16 := by
  have := rest_bound (gen := gen) (n := n) (t := t) (by omega) (by omega) (by omega)
  unfold manyOf secsOf
  omega
theorem cpTexts_small {x : Vals} (h : GoodV x) (hl : x.length ≤ 1000000) : ∀ t ∈ cpTexts x, t.length ≤ 930 := by
  intro t ht
  simp only [cpTexts, List.mem_cons, List.mem_map] at ht
  rcases ht with rfl | ⟨p, hp, rfl⟩
  · have := numB_len9 (n := x.length) (by omega); omega
  · have := h.all p hp
    have := keyText_len this.2.1 this.2.2
    omega

/-! ### the datum of a map -/
open Go.Maps
/-- a map's values, as the reader of maps has them: each held as it is -/
def heldR (v : Value) : Option (DataW Value × List MemPlace) := some (.held v, [])
def encV (h : Int → Value) (p : Int × List UInt8) : Lit × DataW Value := (.int .i64 p.1, .held (h p.1))
def valsD (x : Vals) (h : Int → Value) : DataW Value := .map (x.map (encV h))
theorem encV_filter (x : Vals) (h : Int → Value) (k : Int) : (x.map (encV h)).filter (fun p => !p.1.sameKey (.int .i64 k)) = (outV x k).map (encV h) := by
  rw [List.filter_map]
  congr 1
  apply List.filter_congr
  intro p _
  simp [encV, Lit.sameKey, Bool.not_eq_eq_eq_not]
  by_cases e : p.1 = k <;> simp [e]
theorem insert_encV (h : Int → Value) (p : Int × List UInt8) : ∀ x : Vals, DataW.insert (encV h p) (x.map (encV h)) = (insV p x).map (encV h)
  | [] => rfl
  | y :: r => by
    simp only [List.map_cons, DataW.insert, insV]
    by_cases hlt : p.1 < y.1
    · have e : (encV h p).1.before (encV h y).1 = true := by simp [encV, Lit.before, hlt]
      rw [if_pos e, if_pos hlt]; rfl
    · have e : ¬ (encV h p).1.before (encV h y).1 = true := by simp [encV, Lit.before]; omega
      rw [if_neg e, if_neg hlt, insert_encV h p r]; rfl
/-- the function with one more value -/
def setH (h : Int → Value) (k : Int) (v : Value) : Int → Value := fun j => if j = k then v else h j
theorem setH_same (h : Int → Value) (k : Int) (v : Value) : setH h k v k = v := if_pos rfl
theorem setH_other {h : Int → Value} {k j : Int} {v : Value} (e : j ≠ k) : setH h k v j = h j := if_neg e
theorem valsD_put (x : Vals) (h : Int → Value) (k : Int) (b : List UInt8) (v : Value) : (valsD x h).put (.int .i64 k) (.held v) = valsD (putV x k b) (setH h k v) := by
  unfold valsD DataW.put putV
  simp only
  rw [encV_filter]
  congr 1
  have e : (outV x k).map (encV h) = (outV x k).map (encV (setH h k v)) := by
    apply List.map_congr_left
    intro p hp
    simp only [encV, setH_other (mem_outV.1 hp).2]
  rw [e, ← insert_encV]
  congr 1
  simp only [encV, setH_same]
theorem valsD_del (x : Vals) (h : Int → Value) (k : Int) : (valsD x h).del (.int .i64 k) = valsD (outV x k) h := by
  unfold valsD DataW.del
  simp only
  rw [encV_filter]
theorem valsD_has (x : Vals) (h : Int → Value) (k : Int) : has (valsD x h) (.int .i64 k) = hasV x k := by
  unfold valsD hasV
  rw [has_eq, List.any_map]
  congr 1
  funext p
  simp [encV, Lit.sameKey]
  rw [Bool.eq_iff_iff]
  simp
theorem valsD_size (x : Vals) (h : Int → Value) : Maps.size (valsD x h) = x.length := by simp [valsD, Maps.size]
theorem valsD_keys (x : Vals) (h : Int → Value) : intKeys (valsD x h) = x.map (·.1) := by
  unfold valsD intKeys
  simp only [List.map_map]
  apply List.map_congr_left
  intro p _
  rfl
theorem valsD_at {x : Vals} {h : Int → Value} {k : Int} {z : DataW Value} (hk : hasV x k = true) : (valsD x h).atKey (.int .i64 k) z = .held (h k) := by
  obtain ⟨p, hp, rfl⟩ := hasV_iff.1 hk
  unfold valsD DataW.atKey
  simp only
  have : (x.map (encV h)).find? (fun q => q.1.sameKey (.int .i64 p.1)) = some (encV h p) ∨ ∃ q ∈ x, q.1 = p.1 ∧ (x.map (encV h)).find? (fun q => q.1.sameKey (.int .i64 p.1)) = some (encV h q) := by
    cases hf : (x.map (encV h)).find? (fun q => q.1.sameKey (.int .i64 p.1)) with
    | none =>
      have := List.find?_eq_none.1 hf (encV h p) (List.mem_map.2 ⟨p, hp, rfl⟩)
      simp [encV, Lit.sameKey] at this
    | some y =>
      have h1 := List.find?_some hf
      obtain ⟨q, hq, rfl⟩ := List.mem_map.1 (List.mem_of_find?_eq_some hf)
      refine .inr ⟨q, hq, ?_, rfl⟩
      simpa [encV, Lit.sameKey] using h1
  rcases this with e | ⟨q, hq, e1, e⟩
  · rw [e]; rfl
  · rw [e]; simp only [encV, e1]
theorem valsD_none {x : Vals} {h : Int → Value} {k : Int} {z : DataW Value} (hk : hasV x k = false) : (valsD x h).atKey (.int .i64 k) z = z := by
  unfold valsD DataW.atKey
  simp only
  have : (x.map (encV h)).find? (fun q => q.1.sameKey (.int .i64 k)) = none := by
    rw [List.find?_eq_none]
    intro y hy
    obtain ⟨q, hq, rfl⟩ := List.mem_map.1 hy
    intro hs
    have e : q.1 = k := by simpa [encV, Lit.sameKey] using hs
    rw [(hasV_iff (x := x) (k := k)).2 ⟨q, hq, e⟩] at hk
    cases hk
  rw [this]
end Go.Proofs.YtdlgihgdpdiglaaGreat
end

section
namespace Go.Proofs.YtdlgihgdpdiglaaGreat
open Go.ChangeShapes Go.WideShapes Go.ChangeAt Go.RowKit Go.Maps
set_option linter.unusedVariables false

theorem keyed : Keyed Tryz.prog 3 := int_keyed Tryz.underlying3
theorem zero_bytes (w : World) : (zeroValue 39).run Tryz.prog w = .ok (.slice none 0 0) w := by kernel_rfl
theorem key_of {k : Int} (h1 : -9223372036854775808 ≤ k) (h2 : k ≤ 9223372036854775807) : keyOf Tryz.prog 3 (.int .i64 k) = some (.int .i64 k) :=
  keyOf_int_mk Tryz.underlying3 (WalkArith.wf_i64 (by omega))

/-- a map at m with the values x, each in a row of its own -/
def ValsAt (w : World) (B m : Nat) (x : Vals) : Prop :=
  B ≤ m ∧ ∃ h : Int → Value, w.ownsMap Tryz.prog 3 heldR m x.length (valsD x h) ∧ ∀ p ∈ x, w.ownsRow B 5 1 (h p.1) p.2.length (bytesV p.2)
/-- what is turned are cells, and no bytes -/
def Spares (w : World) (p : Nat → Prop) : Prop := ∀ k, p k → k < w.heap.size → ∃ cs T fr, w.heap[k]? = some (.cells cs T fr) ∧ T ≠ 5
theorem Spares.none (w : World) : Spares w (fun _ => False) := fun _ h => h.elim

theorem map_turned {p : Nat → Prop} {w w' : World} {m n : Nat} {D : DataW Value} (h : w.ownsMap Tryz.prog 3 heldR m n D) (ht : Turned p w w') (hp : ¬ p m) : w'.ownsMap Tryz.prog 3 heldR m n D := by
  obtain ⟨es, clock, hb, F, hs, hD⟩ := h
  exact ⟨es, clock, ht.heap hb hp, F, hs, hD⟩
theorem map_lt {w : World} {m n : Nat} {D : DataW Value} (h : w.ownsMap Tryz.prog 3 heldR m n D) : ∃ es clock, w.heap[m]? = some (.map es clock) := by
  obtain ⟨es, clock, hb, _⟩ := h
  exact ⟨es, clock, hb⟩
theorem map_size {w : World} {m n : Nat} {D : DataW Value} (h : w.ownsMap Tryz.prog 3 heldR m n D) : w.ownsMap Tryz.prog 3 heldR m (Maps.size D) D := by
  obtain ⟨es, clock, hb, F, hs, rfl⟩ := h
  exact ⟨es, clock, hb, F, by simp [Maps.size, length_sorted], rfl⟩
theorem row_block {w : World} {B n z : Nat} {e : TypeId} {v : Value} {xs : List Value} (h : w.ownsRow B e z v n xs) {k : Nat} (hk : v.ownBlock = some k) : ∃ cs, w.heap[k]? = some (.cells cs e (0, 0)) := by
  rcases h.2 with ⟨rfl, _⟩ | ⟨g, cap, cur, rfl, _, hh, _⟩
  · cases hk
  · injection hk with hk
    subst hk
    exact ⟨_, hh⟩
theorem ValsAt.turned {p : Nat → Prop} {w w' : World} {B m : Nat} {x : Vals} (h : ValsAt w B m x) (ht : Turned p w w') (hs : Spares w p) : ValsAt w' B m x := by
  obtain ⟨hB, f, hm, hr⟩ := h
  refine ⟨hB, f, map_turned hm ht fun hp => ?_, fun q hq => ht.own (hr q hq) fun k hk hp => ?_⟩
  · obtain ⟨es, clock, hb⟩ := map_lt hm
    obtain ⟨cs, T, fr, hc, _⟩ := hs m hp (Array.getElem?_eq_some_iff.1 hb).1
    rw [hb] at hc; cases hc
  · obtain ⟨cs, hb⟩ := row_block (hr q hq) hk
    obtain ⟨cs', T, fr, hc, hne⟩ := hs k hp (Array.getElem?_eq_some_iff.1 hb).1
    rw [hb] at hc
    injection hc with hc
    injection hc with _ e2
    exact hne e2.symm
theorem ValsAt.below {w w' : World} {B m : Nat} {x : Vals} (h : ValsAt w B m x) (hb : Below w.heap.size w w') : ValsAt w' B m x := h.turned (p := fun _ => False) (.of_below hb) (.none w)
theorem ValsAt.lt {w : World} {B m : Nat} {x : Vals} (h : ValsAt w B m x) : B ≤ m ∧ m < w.heap.size := ⟨h.1, by
  obtain ⟨f, hm, _⟩ := h.2
  exact hm.lt⟩
theorem ValsAt.base {w : World} {B B' m : Nat} {x : Vals} (h : ValsAt w B m x) (hb : B' ≤ B) : ValsAt w B' m x := by
  obtain ⟨hB, f, hm, hr⟩ := h
  exact ⟨Nat.le_trans hb hB, f, hm, fun p hp => own_base (hr p hp) hb⟩
theorem ValsAt.made (w : World) {B : Nat} (hB : B ≤ w.heap.size) : ValsAt (w.alloc (.map #[] 0)) B w.heap.size [] :=
  ⟨hB, fun _ => .slice none 0 0, World.ownsMap_made w _ _ _, fun p hp => by cases hp⟩

/-- the blocks of a device are cells, and no bytes -/
theorem IsD.spares {w : World} {B g s : Nat} {r : Option Nat} {d : Dv} (h : IsD w B g s r d) : Spares w (fun k => k = g ∨ k = s ∨ r = some k) := by
  obtain ⟨h1, h2, h3, h4, h5, h6, h7, A, c, h8, h9, h10⟩ := h
  rintro k (rfl | rfl | hk) _
  · exact ⟨_, _, _, h8, by decide⟩
  · exact ⟨_, _, _, h7, by decide⟩
  · rw [← h10] at hk
    obtain ⟨cs, hb⟩ := row_block h9 hk
    exact ⟨_, _, _, hb, by decide⟩
theorem IsJ.spares {w : World} {B g s : Nat} {r : Option Nat} {j : Nat} {q : Option Nat} {J : Jn} (h : IsJ w B g s r j q J) : Spares w (FootJ g s r j q) := by
  have hd := h.dev.spares
  obtain ⟨_, _, _, _, _, _, _, _, _, _, A, c, hh, hown, hq⟩ := h
  rintro k (e | e | e | e | e) hlt
  · exact hd k (.inl e) hlt
  · exact hd k (.inr (.inl e)) hlt
  · subst e; exact ⟨_, _, _, hh, by decide⟩
  · exact hd k (.inr (.inr e)) hlt
  · rw [← hq] at e
    obtain ⟨cs, hb⟩ := row_block hown e
    exact ⟨_, _, _, hb, by decide⟩

section
variable {w : World} {ops : Array Oper} {rest : List Oper} {o : Oper} {a : Act} {Q : Exit → Act → World → Prop}

theorem turned_of_map {w w' : World} {b : Nat} (h : w.mapTurned w' b) : Turned (fun k => k = b) w w' := Turned.of_grown h.grown (p := fun k => k = b) fun k e => by injection e with e; exact e.symm

/-- m[k] = v -/
theorem wpList_putV (hg : o.guard = none) (m x v : Operand) (hop : o.op = Op.mapUpdate 80 m x v) (B b : Nat) (xs : Vals) (k : Int) (val : Value) (bs : List UInt8) (hm : a.eval m = .map (some b)) (hx : a.eval x = .int .i64 k) (hv : a.eval v = val)
    (h : ValsAt w B b xs) (h1 : -9223372036854775808 ≤ k) (h2 : k ≤ 9223372036854775807) (hl : xs.length ≤ 1000000) (hown : w.ownsRow B 5 1 val bs.length (bytesV bs))
    (hK : ∀ w', ValsAt w' B b (putV xs k bs) → Turned (fun k => k = b) w w' → wpList Tryz.prog ops Q rest (a.put o.dst undef) w') : wpList Tryz.prog ops Q (o :: rest) a w := by
  obtain ⟨hB, f, hmap, hr⟩ := h
  refine wpList_mapUpdate_in w hg m x v _ hop 3 39 keyed Tryz.underlying80 heldR b _ _ hm hmap (by unfold maxLen; omega) _ _ (.int .i64 k) hx hv (key_of h1 h2) (.held val) [] rfl ?_
  intro w' hown' hturn
  have ht := turned_of_map hturn
  rw [valsD_put xs f k bs] at hown'
  have hsz := map_size hown'
  rw [valsD_size] at hsz
  obtain ⟨es, clock, hb⟩ := map_lt hmap
  have hne : ∀ {u : Value} {n : Nat} {l : List Value}, w.ownsRow B 5 1 u n l → ∀ k, u.ownBlock = some k → ¬ k = b := fun hr k hk e => by
    obtain ⟨cs, hc⟩ := row_block hr hk
    rw [e, hb] at hc; cases hc
  refine hK w' ⟨hB, _, hsz, fun p hp => ?_⟩ ht
  rcases mem_putV.1 hp with rfl | ⟨hp, hpk⟩
  · rw [setH_same]
    exact ht.own hown (hne hown)
  · rw [setH_other hpk]
    exact ht.own (hr p hp) (hne (hr p hp))

/-- delete(m, k) -/
theorem wpList_delV (hg : o.guard = none) (m x : Operand) (hop : o.op = Op.call { callee := Callee.builtin Builtin.delete, args := #[m, x], argTypes := #[80, 3] }) (B b : Nat) (xs : Vals) (k : Int) (hm : a.eval m = .map (some b)) (hx : a.eval x = .int .i64 k)
    (h : ValsAt w B b xs) (h1 : -9223372036854775808 ≤ k) (h2 : k ≤ 9223372036854775807)
    (hK : ∀ w', ValsAt w' B b (outV xs k) → Turned (fun k => k = b) w w' → wpList Tryz.prog ops Q rest (a.put o.dst (.tuple #[])) w') : wpList Tryz.prog ops Q (o :: rest) a w := by
  obtain ⟨hB, f, hmap, hr⟩ := h
  refine wpList_delete_own w hg m x _ _ hop 39 keyed Tryz.underlying80 heldR b _ _ hm hmap _ (.int .i64 k) hx (key_of h1 h2) ?_
  intro w' hown' hturn
  have ht := turned_of_map hturn
  rw [valsD_del xs f k] at hown'
  have hsz := map_size hown'
  rw [valsD_size] at hsz
  obtain ⟨es, clock, hb⟩ := map_lt hmap
  refine hK w' ⟨hB, _, hsz, fun p hp => ?_⟩ ht
  have hp' := (mem_outV.1 hp).1
  exact ht.own (hr p hp') fun k hk e => by
    obtain ⟨cs, hc⟩ := row_block (hr p hp') hk
    rw [e, hb] at hc; cases hc

/-- what stands at a key: its value's row, or nil -/
def GotV (w : World) (B : Nat) (xs : Vals) (k : Int) (v : Value) (bs : List UInt8) : Prop :=
  w.ownsRow B 5 1 v bs.length (bytesV bs) ∧ ((hasV xs k = true ∧ (k, bs) ∈ xs) ∨ (hasV xs k = false ∧ bs = [] ∧ v = .slice none 0 0))
theorem got_of {B b : Nat} {xs : Vals} {k : Int} {f : Int → Value} {v : Value} {ps : List MemPlace} (hr : ∀ p ∈ xs, w.ownsRow B 5 1 (f p.1) p.2.length (bytesV p.2)) (hv : heldR v = some ((valsD xs f).atKey (.int .i64 k) (.held (.slice none 0 0)), ps)) : ∃ bs, GotV w B xs k v bs := by
  simp only [heldR, Option.some.injEq, Prod.mk.injEq] at hv
  by_cases hk : hasV xs k = true
  · rw [valsD_at hk] at hv
    injection hv.1 with e
    obtain ⟨p, hp, rfl⟩ := hasV_iff.1 hk
    exact ⟨p.2, by rw [e]; exact hr p hp, .inl ⟨hk, hp⟩⟩
  · have hk' : hasV xs k = false := by simpa using hk
    rw [valsD_none hk'] at hv
    injection hv.1 with e
    exact ⟨[], by rw [e]; exact World.ownsRow_nil _ _ _ _, .inr ⟨hk', rfl, e⟩⟩
theorem wpList_lookV (hg : o.guard = none) (m x : Operand) (hop : o.op = Op.lookup 80 m x true) (B b : Nat) (xs : Vals) (k : Int) (hm : a.eval m = .map (some b)) (hx : a.eval x = .int .i64 k)
    (h : ValsAt w B b xs) (h1 : -9223372036854775808 ≤ k) (h2 : k ≤ 9223372036854775807)
    (hK : ∀ A n c bs, bs.length = n → GotV w B xs k (.slice A n c) bs → wpList Tryz.prog ops Q rest (a.put o.dst (.tuple #[.slice A n c, .bool (hasV xs k)])) w) : wpList Tryz.prog ops Q (o :: rest) a w := by
  obtain ⟨hB, f, hmap, hr⟩ := h
  refine wpList_lookup_own_ok w hg m x _ hop 3 39 keyed Tryz.underlying80 heldR (zero_bytes w) (.held (.slice none 0 0)) [] rfl b _ _ hm hmap _ (.int .i64 k) hx (key_of h1 h2) ?_
  intro v ps hv
  rw [valsD_has]
  obtain ⟨bs, hgot⟩ := got_of (b := b) hr hv
  obtain ⟨A, c, rfl⟩ := own_form hgot.1
  exact hK A _ c bs rfl hgot
theorem wpList_getV (hg : o.guard = none) (m x : Operand) (hop : o.op = Op.lookup 80 m x false) (B b : Nat) (xs : Vals) (k : Int) (hm : a.eval m = .map (some b)) (hx : a.eval x = .int .i64 k)
    (h : ValsAt w B b xs) (h1 : -9223372036854775808 ≤ k) (h2 : k ≤ 9223372036854775807)
    (hK : ∀ A n c bs, bs.length = n → GotV w B xs k (.slice A n c) bs → wpList Tryz.prog ops Q rest (a.put o.dst (.slice A n c)) w) : wpList Tryz.prog ops Q (o :: rest) a w := by
  obtain ⟨hB, f, hmap, hr⟩ := h
  refine wpList_plain hg fun K' hK' => ?_
  obtain ⟨v, ps, hrun, hv⟩ := hmap.lookup keyed Tryz.underlying80 (zero_bytes w) (zd := .held (.slice none 0 0)) (zp := []) rfl (key_of h1 h2)
  obtain ⟨bs, hgot⟩ := got_of (b := b) hr hv
  obtain ⟨A, c, rfl⟩ := own_form hgot.1
  unfold Oper.wp
  simp [execOp, hop, hm, hx, hrun, Result.andThen]
  exact hK' _ _ (hK A _ c bs rfl hgot)
/-- m[k], the map as an elder world has it -/
theorem wpList_getV0 (w0 : World) (hg : o.guard = none) (m x : Operand) (hop : o.op = Op.lookup 80 m x false) (B b : Nat) (xs : Vals) (k : Int) (hm : a.eval m = .map (some b)) (hx : a.eval x = .int .i64 k)
    (h : ValsAt w0 B b xs) (hb0 : Below w0.heap.size w0 w) (h1 : -9223372036854775808 ≤ k) (h2 : k ≤ 9223372036854775807)
    (hK : ∀ A n c bs, bs.length = n → GotV w0 B xs k (.slice A n c) bs → wpList Tryz.prog ops Q rest (a.put o.dst (.slice A n c)) w) : wpList Tryz.prog ops Q (o :: rest) a w := by
  obtain ⟨hB, f, hmap0, hr⟩ := h
  have hmap := map_turned hmap0 (Turned.of_below (p := fun _ => False) hb0) id
  refine wpList_plain hg fun K' hK' => ?_
  obtain ⟨v, ps, hrun, hv⟩ := hmap.lookup keyed Tryz.underlying80 (zero_bytes w) (zd := .held (.slice none 0 0)) (zp := []) rfl (key_of h1 h2)
  obtain ⟨bs, hgot⟩ := got_of (b := b) hr hv
  obtain ⟨A, c, rfl⟩ := own_form hgot.1
  unfold Oper.wp
  simp [execOp, hop, hm, hx, hrun, Result.andThen]
  exact hK' _ _ (hK A _ c bs rfl hgot)
theorem wpList_lenV (hg : o.guard = none) (m : Operand) (hop : o.op = Op.call { callee := Callee.builtin Builtin.len, args := #[m], argTypes := #[80] }) (B b : Nat) (xs : Vals) (hm : a.eval m = .map (some b)) (h : ValsAt w B b xs)
    (hK : wpList Tryz.prog ops Q rest (a.put o.dst (.int .i64 (xs.length : Int))) w) : wpList Tryz.prog ops Q (o :: rest) a w := by
  obtain ⟨hB, f, hmap, hr⟩ := h
  refine wpList_len_own w hg m _ hop 3 39 Tryz.underlying80 heldR b _ _ hm hmap ?_
  rw [valsD_size]
  exact hK
end
end Go.Proofs.YtdlgihgdpdiglaaGreat

namespace Go.Proofs.YtdlgihgdpdiglaaGreat
open Go.ChangeShapes Go.WideShapes Go.ChangeAt Go.RowKit Go.Maps Go.Shelf
set_option linter.unusedVariables false

/-- keys as cells -/
def keysV (x : Vals) : List Value := x.map fun p => .int .i64 p.1
theorem keysV_length (x : Vals) : (keysV x).length = x.length := by simp [keysV]
theorem sorted_keys {x : Vals} (h : Rising x) {ss : List Int} (hp : ss.Perm (x.map (·.1))) : (ss.mergeSort (fun a b => decide (a ≤ b))).map encZ = keysV x := by
  have e : ss.mergeSort leI = (x.map (·.1)).mergeSort leI := mergeSort_of_perm_i hp
  have e2 : (x.map (·.1)).mergeSort leI = x.map (·.1) := by
    refine List.mergeSort_of_pairwise ?_
    rw [List.pairwise_map]
    exact h.imp fun hlt => by simp only [leI, decide_eq_true_eq]; omega
  show (ss.mergeSort leI).map encZ = _
  rw [e, e2, List.map_map]
  rfl

/-- the world behind maps.Keys -/
def boxed (w : World) (m : Nat) : World := w.alloc (.cells #[.map (some m)] 80)
theorem Keys_any (m : Nat) (w : World) :
    Calls Tryz.prog 192 #[.map (some m)] w fun e w' => e = .returned (.func (.func 212) #[] #[.pointer (some ⟨w.heap.size, 0, none⟩)]) ∧ w' = boxed w m :=
  (callsIn_wide (n := 5)).1 (AnyZI.keys_in Tryz.keysA Fence.wide 5 trivial rfl (some m) w)
theorem sortsA (m : Nat) : AnyZI.SortsIn Tryz.prog Tryz.sortedA_ren Fence.wide m :=
  ⟨fun blk off cap ss W hH hblk hsz => callsIn_wide.2 (AnyM.slices_Sort_int Tryz.sortA blk off cap ss W hH hblk hsz),
   fun p cap W => callsIn_wide.2 (AnyM.slices_Sort_int_none Tryz.sortA p cap W)⟩
theorem Sorted_any (B m : Nat) (x : Vals) (w : World) (h : ValsAt w B m x) (hr : Rising x) (hl : x.length ≤ 1000000) :
    Calls Tryz.prog 191 #[.func (.func 212) #[] #[.pointer (some ⟨w.heap.size, 0, none⟩)]] (boxed w m) fun e w' =>
      ∃ A c, e = .returned (.slice A x.length c) ∧ w'.ownsRow w.heap.size 3 1 (.slice A x.length c) x.length (keysV x) ∧ Below w.heap.size w w' := by
  obtain ⟨hB, f, hmap, hrow⟩ := h
  have hlt := hmap.lt
  have hmap' := hmap
  obtain ⟨es, clock, hb, F, hs, hD⟩ := hmap
  have hsz : Maps.size (valsD x f) = x.length := valsD_size x f
  have hseq : SeqGives Fence.wide 2 Tryz.prog 212 #[.pointer (some ⟨w.heap.size, 0, none⟩)] encZ (fun ss => ss.Perm (intKeys (valsD x f))) (Maps.size (valsD x f)) (boxed w m) :=
    AnyZI.keys_gives (ρ := Tryz.keysA_ren) { Tryz.keysA with } Fence.wide _ trivial rfl (by omega) w.heap.size m x.length (valsD x f) _ (by simp [boxed]) (by simp [boxed]) (R := heldR)
      ⟨es, clock, (Below.heap_alloc _ _ m hlt).trans hb, F, hs, hD⟩
  have cS := AnyZI.sorted_in Tryz.sortedA Fence.wide 5 trivial trivial trivial trivial rfl (by omega) (sortsA _) (enters_of Tryz.func198 (by kernel_rfl) rfl) 212 #[.pointer (some ⟨w.heap.size, 0, none⟩)] trivial
    (enters_of Tryz.func212 (by kernel_rfl) rfl) _ _ (by rw [hsz]; unfold maxLen; omega) (by rw [hsz]; omega) _ hseq
  change CallsIn _ _ Tryz.prog 191 _ _ _ at cS
  refine ((callsIn_wide (n := 5)).1 cS).mono ?_
  rintro e w' ⟨v, ss, rfl, hp, hown, hnil, hb⟩
  rw [valsD_keys] at hp
  rw [sorted_keys hr hp] at hown
  have hlen : ss.length = x.length := by have := hp.length_eq; simpa using this
  rw [hlen] at hown
  have hb2 : Below w.heap.size w w' := ((Below.refl _ w).alloc (Nat.le_refl _) _).trans (hb.mono (by simp [boxed]))
  obtain ⟨A, c, rfl⟩ := own_form hown
  exact ⟨A, c, rfl, own_base hown (by simp [boxed]), hb2⟩

theorem MClone_any (B m : Nat) (x : Vals) (w : World) (h : ValsAt w B m x) (hBw : B ≤ w.heap.size) :
    Calls Tryz.prog 215 #[.map (some m)] w fun e w' => e = .returned (.map (some w.heap.size)) ∧ ValsAt w' B w.heap.size x ∧ Below w.heap.size w w' := by
  obtain ⟨hB, f, hmap, hrow⟩ := h
  refine (AnyW.maps_Clone_owns Tryz.cloneA 3 heldR m _ _ w hmap).mono ?_
  rintro e w' ⟨rfl, h1, h2, hb⟩
  exact ⟨rfl, ⟨hBw, f, h1, fun p hp => own_below (hrow p hp) hb⟩, hb⟩

theorem SClone_any (A : Option Addr) (n c : Nat) (bs : List UInt8) (w : World) (hn : bs.length = n) (hl : n ≤ 1000000) (hs : Seen w A (bytesV bs)) :
    Calls Tryz.prog 134 #[.slice A n c] w (OwnRet 5 (bytesV bs) w) := by
  obtain ⟨i0, hi, hz0, hz1, hz2⟩ := info_parts u8_info
  cases A with
  | none =>
    have hb : bs = [] := by
      rcases hs with h | ⟨g, o, e, _⟩
      · simpa [bytesV] using h
      · cases e
    subst hb
    refine (AnyE.slices_Clone_nil Tryz.cloneB n c w).mono ?_
    rintro e w' ⟨rfl, rfl⟩
    exact ⟨none, 0, rfl, World.ownsRow_nil _ _ _ _, Below.refl _ _⟩
  | some ad =>
    have hx : (bytesV bs).length = n := by rw [bytes_length, hn]
    have q22 : ∀ (w : World) (a : Option Addr) (n c n' c' : Nat), (binOp .eql 39 (.slice a n c) (.slice none n' c')).run Tryz.prog w = .ok (.bool a.isNone) w := fun w a n c n' c' => Lib.run_eql_slice_nil w _ _ a n c n' c' Tryz.underlying39
    have Hs := Lib.hid hs; have Hx := Lib.hid hx
    clear hs hx hn
    go_enter Tryz.func134, Tryz.ntmps134
    go_wp2_with (at_builtin; refine wpList_app rfl (.tmp 5) (.tmp 6) _ rfl 5 _ 1 Tryz.underlying39 u8_info rfl w.heap.size (some ⟨w.heap.size, 0, none⟩) 0 0 [] rfl (World.ownsRow_made w #[] 0 (Nat.le_refl _) (Nat.zero_le _) (by simp)) (some ad) n c (bytesV bs) rfl Hx.out (Hs.out.alloc _) (bytes_one _) (by unfold maxLen; omega) (by omega) (by simp) ?_; intro A4 c4 w4 hown4 hb4; simp only [Nat.zero_add, List.nil_append] at hown4; have Hown4 := Lib.hid hown4; have Hb4 := Lib.hid hb4; clear hown4 hb4; simp only [Nat.zero_add])
    go_ret
    exact ⟨A4, c4, by rw [Hx.out]; rfl, by rw [Hx.out]; exact Hown4.out, ((Below.refl _ w).alloc (Nat.le_refl _) _).trans Hb4.out⟩
end Go.Proofs.YtdlgihgdpdiglaaGreat
end

section
namespace Go.Proofs.YtdlgihgdpdiglaaGreat
open Go.ChangeShapes Go.WideShapes Go.ChangeAt Go.RowKit Go.Maps
set_option linter.unusedVariables false

/-- a change as a value, its bytes' slice given -/
def chgV (c : Chg) (A : Option Addr) (n cc : Nat) : Value := .agg #[.int .i64 c.key, .int .i64 (c.kind : Int), .slice A n cc]

theorem chg_text (c : Chg) : c.text = numB c.key.toNat ++ (numB c.kind ++ (if c.kind = 1 then numB c.bytes.length ++ c.bytes else [])) := by
  unfold Chg.text Chg.kind Chg.bytes
  cases c.val with
  | none => simp
  | some b => simp
theorem chg_kind (c : Chg) : c.kind = 0 ∨ c.kind = 1 := by unfold Chg.kind; split <;> simp

set_option maxRecDepth 100000 in
set_option maxHeartbeats 1000000 in
theorem text_any (c : Chg) (h : c.Ok) (A : Option Addr) (n cc : Nat) (w : World) (hn : c.bytes.length = n) (hs : Seen w A (bytesV c.bytes)) :
    Calls Tryz.prog 194 #[chgV c A n cc] w (OwnRet 5 (bytesV c.text) w) := by
  have hlo := h.lo; have hhi := h.hi; have hlen := h.len
  have hkl := numB_len9 (n := c.key.toNat) (by omega)
  have hk2 : (numB c.kind).length ≤ 9 := numB_len9 (by rcases chg_kind c with e | e <;> rw [e] <;> omega)
  have htl := c.text_len h
  have Ht := Lib.hid (chg_text c)
  have Hn := Lib.hid hn
  obtain ⟨w0, hw0⟩ : ∃ w0, w.alloc (.cells #[.int .i64 c.key, .int .i64 (c.kind : Int), .slice A n cc] 142) = w0 := ⟨_, rfl⟩
  have hb0 : Below w.heap.size w w0 := by rw [← hw0]; exact (Below.refl _ w).alloc (Nat.le_refl _) _
  have hs0 : w0.heap.size = w.heap.size + 1 := by rw [← hw0]; simp
  have hh0 : w0.heap[w.heap.size]? = some (.cells #[.int .i64 c.key, .int .i64 (c.kind : Int), .slice A n cc] 142 (0, 0)) := by rw [← hw0]; exact heap_alloc_new w _
  have hseen0 : Seen w0 A (bytesV c.bytes) := by rw [← hw0]; exact hs.alloc _
  obtain ⟨w1, hw1⟩ : ∃ w1, w0.alloc (.cells #[.slice none 0 0] 175) = w1 := ⟨_, rfl⟩
  have z0 : IsW w1 w0.heap.size w0.heap.size none [] := by rw [← hw1]; exact IsW.zero w0 _ (Nat.le_refl _)
  have hb1 : Below w0.heap.size w0 w1 := by rw [← hw1]; exact (Below.refl _ _).alloc (Nat.le_refl _) _
  have cells : ∀ W, Below w0.heap.size w0 W → (W.cell? ⟨w.heap.size, 0, none⟩ = some (.int .i64 c.key) ∧ W.cell? ⟨w.heap.size, 1, none⟩ = some (.int .i64 (c.kind : Int)) ∧ W.cell? ⟨w.heap.size, 2, none⟩ = some (.slice A n cc)) ∧ Seen W A (bytesV c.bytes) := fun W hb => by
    have hh : W.heap[w.heap.size]? = some (.cells #[.int .i64 c.key, .int .i64 (c.kind : Int), .slice A n cc] 142 (0, 0)) := by rw [hb.block _ (by omega)]; exact hh0
    exact ⟨⟨row_cell hh 0, row_cell hh 1, row_cell hh 2⟩, hseen0.below (hb.mono (by omega))⟩
  have Fin := Lib.hid (show ∀ W, Below w0.heap.size w0 W → Below w.heap.size w W from fun W hb => hb0.trans (hb.mono (by omega)))
  have Z0 := Lib.hid z0; have Hb1 := Lib.hid hb1
  have hc1 := (cells w1 hb1).1.1
  have Cells := Lib.hid cells
  clear hb0 hs0 hh0 hseen0 z0 hb1 hs hn cells
  unfold chgV
  go_enter Tryz.func194, Tryz.ntmps194
  go_wp2_with fail
  refine (WNum_any _ _ none [] c.key w1 Z0.out (by simp) (by omega) (by omega)).mono ?_
  rintro e w2 ⟨rfl, hg2⟩
  have hb2 := Hb1.out.trans (GrewW.below Z0.out hg2)
  obtain ⟨r2, hw2, _, _⟩ := hg2
  rw [List.nil_append] at hw2
  have Hw2 := Lib.hid hw2
  have hc2 := (Cells.out w2 hb2).1.2.1
  have Hb2 := Lib.hid hb2
  clear hw2 hb2
  go_wp2_with fail
  refine (WNum_any _ _ r2 (numB c.key.toNat) c.kind w2 Hw2.out (by omega) (by have := chg_kind c; omega) (by have := chg_kind c; omega)).mono ?_
  rintro e w3 ⟨rfl, hg3⟩
  have hb3 := Hb2.out.trans (GrewW.below Hw2.out hg3)
  obtain ⟨r3, hw3, _, _⟩ := hg3
  rw [Int.toNat_natCast] at hw3
  have Hw3 := Lib.hid hw3
  have hc3 := (Cells.out w3 hb3).1.2.1
  have hc4 := (Cells.out w3 hb3).1.2.2
  have Hs3 := Lib.hid (Cells.out w3 hb3).2
  have Hb3 := Lib.hid hb3
  clear hw3 hb3
  rcases chg_kind c with hk | hk
  · rw [hk] at Hw3 Ht hc3
    rw [if_neg (by omega), List.append_nil] at Ht
    clear hw0 hw1 hc1 hc2 hc4
    go_wp2_with fail
    refine (WBytes_any _ _ r3 _ w3 Hw3.out (by rw [List.length_append]; rw [hk] at hk2; omega)).mono ?_
    rintro e w4 ⟨A4, c4, rfl, hown4, hb4⟩
    rw [← Ht.out] at hown4 ⊢
    have Hown4 := Lib.hid hown4; have Hb4 := Lib.hid hb4
    clear hown4 hb4
    go_wp2
    go_ret
    have hsz := Hb3.out.size
    have f := Fin.out w4 (Hb3.out.trans (Hb4.out.mono hsz))
    exact ⟨A4, c4, rfl, own_base Hown4.out (by have := (Fin.out w3 Hb3.out).size; exact this), f⟩
  · rw [hk] at Hw3 Ht hc3
    rw [if_pos rfl] at Ht
    clear hw0 hw1 hc1 hc2
    go_wp2_with fail
    refine (WText_any _ _ r3 _ c.bytes A n cc w3 Hw3.out (by rw [List.length_append]; rw [hk] at hk2; omega) Hn.out (by have := Hn.out; omega) (fun w' ht => (Cells.out w' (Hb3.out.trans (ht.below (fun k hk => by
      rcases hk with rfl | hk
      · exact Nat.le_refl _
      · exact (Hw3.out.lt.2 k hk).1) Hb3.out.size))).2)).mono ?_
    rintro e w4 ⟨rfl, hg4⟩
    have Hb4 := Lib.hid (Hb3.out.trans (GrewW.below Hw3.out hg4))
    obtain ⟨r4, hw4, _, _⟩ := hg4
    rw [← Hn.out, List.append_assoc, ← Ht.out] at hw4
    have Hw4 := Lib.hid hw4
    clear hw4
    go_wp2_with fail
    refine (WBytes_any _ _ r4 _ w4 Hw4.out (by omega)).mono ?_
    rintro e w5 ⟨A5, c5, rfl, hown5, hb5⟩
    have Hown5 := Lib.hid hown5; have Hb5 := Lib.hid hb5
    clear hown5 hb5
    go_wp2
    go_ret
    have hsz := Hb4.out.size
    have f := Fin.out w5 (Hb4.out.trans (Hb5.out.mono hsz))
    exact ⟨A5, c5, rfl, own_base Hown5.out (Fin.out w4 Hb4.out).size, f⟩

/-! ### apply -/
set_option maxRecDepth 100000 in
set_option maxHeartbeats 1000000 in
theorem apply_any (c : Chg) (h : c.Ok) (A : Option Addr) (n cc : Nat) (B m : Nat) (x : Vals) (w : World) (hv : ValsAt w B m x) (hx : x.length ≤ 1000000) (hn : c.bytes.length = n) (hown : w.ownsRow B 5 1 (.slice A n cc) n (bytesV c.bytes)) :
    Calls Tryz.prog 66 #[chgV c A n cc, .map (some m)] w fun e w' => e = .returned (.tuple #[]) ∧ ValsAt w' B m (c.on x) ∧ Turned (fun k => k = m) w w' := by
  have hlo := h.lo; have hhi := h.hi; have hlen := h.len
  have Hn := Lib.hid hn
  obtain ⟨w0, hw0⟩ : ∃ w0, w.alloc (.cells #[.int .i64 c.key, .int .i64 (c.kind : Int), .slice A n cc] 142) = w0 := ⟨_, rfl⟩
  have hb0 : Below w.heap.size w w0 := by rw [← hw0]; exact (Below.refl _ w).alloc (Nat.le_refl _) _
  have hh0 : w0.heap[w.heap.size]? = some (.cells #[.int .i64 c.key, .int .i64 (c.kind : Int), .slice A n cc] 142 (0, 0)) := by rw [← hw0]; exact heap_alloc_new w _
  have c0 : w0.cell? ⟨w.heap.size, 0, none⟩ = some (.int .i64 c.key) := row_cell hh0 0
  have c1 : w0.cell? ⟨w.heap.size, 1, none⟩ = some (.int .i64 (c.kind : Int)) := row_cell hh0 1
  have c2 : w0.cell? ⟨w.heap.size, 2, none⟩ = some (.slice A n cc) := row_cell hh0 2
  have Hv := Lib.hid (hv.below hb0)
  have Hown := Lib.hid (own_below hown hb0)
  have Hb0 := Lib.hid hb0
  have Hon := Lib.hid (show c.on x = if c.kind = 1 then putV x c.key c.bytes else outV x c.key by
    unfold Chg.on Chg.kind Chg.bytes
    cases c.val <;> rfl)
  clear hv hown hb0 hh0
  unfold chgV
  rcases chg_kind c with hk | hk
  · have hd : ((c.kind : Int) == 0) = true := by rw [hk]; rfl
    have Hk := Lib.hid hk; clear hk
    go_enter Tryz.func66, Tryz.ntmps66
    go_wp2_with (at_delete; go_loud (refine wpList_delV rfl _ _ rfl B m x c.key rfl rfl Hv.out (by omega) (by omega) ?_; intro w1 hv1 ht1; have Hv1 := Lib.hid hv1; have Ht1 := Lib.hid ht1; clear hv1 ht1))
    simp only [Act.put]
    refine bodyPost_ret (results_none rfl _ _ _) rfl ?_
    refine ⟨rfl, by rw [Hon.out, if_neg (by rw [Hk.out]; omega)]; exact Hv1.out, (Turned.of_below Hb0.out).trans Ht1.out (fun _ e => e) (fun _ _ e => e)⟩
  · have hd : ((c.kind : Int) == 0) = false := by rw [hk]; rfl
    have Hk := Lib.hid hk; clear hk
    go_enter Tryz.func66, Tryz.ntmps66
    go_wp2_with (at_mapUpdate; go_loud (refine wpList_putV rfl _ _ _ rfl B m x c.key (.slice A n cc) c.bytes rfl rfl rfl Hv.out (by omega) (by omega) hx (by rw [Hn.out]; exact Hown.out) ?_; intro w1 hv1 ht1; have Hv1 := Lib.hid hv1; have Ht1 := Lib.hid ht1; clear hv1 ht1))
    go_end0
    refine ⟨rfl, by rw [Hon.out, if_pos Hk.out]; exact Hv1.out, (Turned.of_below Hb0.out).trans Ht1.out (fun _ e => e) (fun _ _ e => e)⟩
end Go.Proofs.YtdlgihgdpdiglaaGreat
end

section
namespace Go.Proofs.YtdlgihgdpdiglaaGreat
open Go.ChangeShapes Go.WideShapes Go.ChangeAt Go.RowKit Go.Maps
set_option linter.unusedVariables false

theorem VText_is (g e : Nat) (bs : List UInt8) (most : Int) (w : World) (h : IsR w g bs e) (h1 : -9223372036854775808 ≤ most) (h2 : most ≤ 9223372036854775807) {x l : List UInt8} {e' m : Nat} (hrd : rdText bs e most = (x, l, e')) (hm : x.length = m) :
    Calls Tryz.prog 128 #[.pointer (some ⟨g, 0, none⟩), .int .i64 most] w fun en w' => ∃ A c, en = .returned (.slice A m c) ∧ w'.ownsRow w.heap.size 5 1 (.slice A m c) m (bytesV x) ∧ IsR w' g l e' ∧ Turned (fun k => k = g) w w' := by
  have := RText_any g e bs most w h h1 h2
  rw [hrd] at this
  subst hm
  exact this
theorem VNum_is (g e : Nat) (bs : List UInt8) (most : Int) (w : World) (h : IsR w g bs e) (h1 : -9223372036854775808 ≤ most) (h2 : most ≤ 9223372036854775807) {a e' : Nat} {l : List UInt8} (hrd : rdNum bs e most = (a, l, e')) :
    Calls Tryz.prog 61 #[.pointer (some ⟨g, 0, none⟩), .int .i64 most] w fun en w' => en = .returned (.int .i64 (a : Int)) ∧ IsR w' g l e' ∧ Turned (fun k => k = g) w w' := by
  have := RNum_any g e bs most w h h1 h2
  rw [hrd] at this
  exact this
theorem results_cell_two {P : Program} {fn : Func} {p u : Tmp} {ty : TypeId} (h : fn.results = #[.cell p ty, .tmp u]) (tmps : Array Value) (w : World) (g : Nat) (t : TypeId) (cs : Array Value) (fr : Nat × Nat) (d : TypeDesc) (b : Value)
    (hp : tmps.getD p undef = .pointer (some ⟨g, 0, none⟩)) (hb : tmps.getD u undef = b) (hg : w.heap[g]? = some (.cells cs t fr))
    (hu : P.underlying ty = some d) (hd : (match d with | .struct _ | .array _ _ => true | _ => false) = true) (hi : (P.info? ty).map (·.size) = some cs.size) :
    (results fn tmps).run P w = .ok (.tuple #[.agg cs, b]) w := by
  rw [results_cell_tmp h, hp, hb]
  simp [asAddr, run_loadVar_row w g t ty cs fr d hg hu hd hi, Result.andThen]
/-- cells that hold no bytes aren't where bytes are read -/
theorem IsR.store {w : World} {gr V e : Nat} {l : List UInt8} {cs : Array Value} {T : TypeId} {u : Value} {j : Nat} (h : IsR w gr l e) (hh : w.heap[V]? = some (.cells cs T (0, 0))) (hno : ∀ v ∈ cs, ∀ z, v ≠ .int .u8 z) (hne : gr ≠ V) : IsR (w.setCell ⟨V, j, none⟩ u) gr l e := by
  obtain ⟨A, n, c, h0, h1, h2, h3, h4, h5, h6⟩ := h
  have t := Turned.setCell (Turned.refl (fun k => k = V) w) (b := ⟨V, j, none⟩) (fun _ => rfl) u
  refine ⟨A, n, c, t.heap h0 hne, h1, h2, h3, h4, ?_, h6⟩
  by_cases hl : l = []
  · rw [hl]; exact Seen.nil _ _
  · refine t.seen h5 fun g o e1 e2 => ?_
    have hpos : 0 < l.length := List.length_pos_iff.2 hl
    obtain ⟨g', o', hA, hc⟩ := h5.byte hpos
    rw [hA] at e1
    injection e1 with e1
    injection e1 with e3 e4
    rw [e3, e2, row_cell hh] at hc
    exact hno _ (Array.mem_of_getElem? hc) _ rfl

theorem vrow_put {w w1 : World} {g : Nat} {cs new : Array Value} {t : TypeId} (hh : w1.heap[g]? = some (.cells cs t (0, 0))) (hB : Below g w w1) : (w1.setRow g new).heap[g]? = some (.cells new t (0, 0)) ∧ Below g w (w1.setRow g new) :=
  ⟨setRow_heap w1 g cs new t (0, 0) hh, hB.trans ⟨rfl, rfl, rfl, by simp, fun k hk => setRow_other w1 g k _ (by omega)⟩⟩
structure ChAt (w : World) (gr V : Nat) (cs : Array Value) (l : List UInt8) (e : Nat) (wi : World) : Prop where
  res : wi.heap[w.heap.size]? = some (.cells #[.int .i64 0, .int .i64 0, .slice none 0 0] 142 (0, 0))
  var : wi.heap[V]? = some (.cells cs 142 (0, 0))
  rd : IsR wi gr l e
  f1 : w.heap.size < V
  f2 : w.heap.size < gr
  f3 : gr ≠ V
  below : Below w.heap.size w wi
theorem ChAt.move {w wi wj : World} {gr V e e' : Nat} {cs : Array Value} {l l' : List UInt8} (h : ChAt w gr V cs l e wi) (hr : IsR wj gr l' e') (ht : Turned (fun k => k = gr) wi wj) : ChAt w gr V cs l' e' wj :=
  ⟨ht.heap h.res (by have := h.f2; omega), ht.heap h.var (fun e => h.f3 e.symm), hr, h.f1, h.f2, h.f3, h.below.trans (ht.below (fun k hk => by rw [hk]; exact Nat.le_of_lt h.f2) h.below.size)⟩
theorem ChAt.store {w wi : World} {gr V e : Nat} {cs : Array Value} {l : List UInt8} (h : ChAt w gr V cs l e wi) (hno : ∀ v ∈ cs, ∀ z, v ≠ .int .u8 z) (j : Nat) (u : Value) : ChAt w gr V (cs.setIfInBounds j u) l e (wi.setCell ⟨V, j, none⟩ u) := by
  have t := Turned.setCell (Turned.refl (fun k => k = V) wi) (b := ⟨V, j, none⟩) (fun _ => rfl) u
  exact ⟨t.heap h.res (by have := h.f1; omega), row_set h.var j u, h.rd.store h.var hno h.f3, h.f1, h.f2, h.f3, h.below.trans (t.below (fun k hk => by rw [hk]; exact Nat.le_of_lt h.f1) h.below.size)⟩
theorem chg_info : (Tryz.prog.info? 142).map (·.size) = some 3 := by kernel_rfl

set_option maxRecDepth 100000 in
set_option maxHeartbeats 1000000 in
theorem changeOf_any (c : Chg) (h : c.Ok) (A : Option Addr) (n cc : Nat) (w : World) (hn : c.text.length = n) (hs : Seen w A (bytesV c.text)) :
    Calls Tryz.prog 65 #[.slice A n cc] w fun e w' => ∃ A' c', e = .returned (.tuple #[chgV c A' c.bytes.length c', .bool true]) ∧ w'.ownsRow w.heap.size 5 1 (.slice A' c.bytes.length c') c.bytes.length (bytesV c.bytes) ∧ Below w.heap.size w w' := by
  have hlo := h.lo; have hhi := h.hi; have hlen := h.len
  have htl := c.text_len h
  have hkd := chg_kind c
  have Ht := Lib.hid (chg_text c)
  have Hn := Lib.hid hn
  obtain ⟨w0, hw0⟩ : ∃ w0, w.alloc (.cells #[.int .i64 0, .int .i64 0, .slice none 0 0] 142) = w0 := ⟨_, rfl⟩
  have hs0 : w0.heap.size = w.heap.size + 1 := by rw [← hw0]; simp
  have hh0 : w0.heap[w.heap.size]? = some (.cells #[.int .i64 0, .int .i64 0, .slice none 0 0] 142 (0, 0)) := by rw [← hw0]; exact heap_alloc_new w _
  have Hb0 := Lib.hid (show Below w.heap.size w w0 by rw [← hw0]; exact (Below.refl _ w).alloc (Nat.le_refl _) _)
  have Hs0 := Lib.hid hs0; have Hh0 := Lib.hid hh0
  have Hsn := Lib.hid (show Seen w0 A (bytesV c.text) by rw [← hw0]; exact hs.alloc _)
  clear hs0 hh0 hs hn
  go_enter Tryz.func65, Tryz.ntmps65
  go_wp2_with fail
  refine (NewR_any A n cc c.text w0 Hn.out (by have := Hn.out; omega) Hsn.out).mono ?_
  rintro e w1 ⟨gr, rfl, hgr, hr1, hb1⟩
  obtain ⟨w2, hw2⟩ : ∃ w2, w1.alloc (.cells #[.int .i64 0, .int .i64 0, .slice none 0 0] 142) = w2 := ⟨_, rfl⟩
  have hb12 : Below w1.heap.size w1 w2 := by rw [← hw2]; exact (Below.refl _ w1).alloc (Nat.le_refl _) _
  have H2 : ChAt w gr w1.heap.size #[.int .i64 0, .int .i64 0, .slice none 0 0] c.text 0 w2 := by
    have h1 := hb1.size; have h2 := Hs0.out
    have h3 := hr1.lt
    refine ⟨?_, by rw [← hw2]; exact heap_alloc_new w1 _, hr1.below hb12, by omega, by omega, by omega, ?_⟩
    · rw [hb12.block _ (by omega), hb1.block _ (by omega)]; exact Hh0.out
    · exact (Hb0.out.trans (hb1.mono (by omega))).trans (hb12.mono (by omega))
  have hH2 := Lib.hid H2
  clear hr1 hb1 hb12 H2
  obtain ⟨V, hV⟩ : ∃ V, w1.heap.size = V := ⟨_, rfl⟩
  have HV := Lib.hid hV
  rw [hV] at hH2
  have r1 : rdNum c.text 0 1099511627776 = (c.key.toNat, numB c.kind ++ (if c.kind = 1 then numB c.bytes.length ++ c.bytes else []), 0) := by
    rw [Ht.out]; exact rdNum_numB (by omega) (by omega) _
  have R1 := Lib.hid r1; clear r1
  go_wp2_with fail
  refine (VNum_is gr 0 c.text 1099511627776 w2 hH2.out.rd (by omega) (by omega) R1.out).mono ?_
  rintro e w3 ⟨rfl, hr3, ht3⟩
  rw [Int.toNat_of_nonneg hlo]
  have H3 := Lib.hid (hH2.out.move hr3 ht3)
  clear hr3 ht3
  have v3 := H3.out.var
  have c3 : w3.cell? ⟨V, 0, none⟩ = some (.int .i64 0) := row_cell v3 0
  have f3 := row_frozen v3 0
  have H4 := Lib.hid (H3.out.store (by simp) 0 (.int .i64 c.key))
  clear v3
  obtain ⟨w4, hw4⟩ : ∃ w4, w3.setCell ⟨V, 0, none⟩ (.int .i64 c.key) = w4 := ⟨_, rfl⟩
  rw [hw4] at H4
  have r2 : rdNum (numB c.kind ++ (if c.kind = 1 then numB c.bytes.length ++ c.bytes else [])) 0 1 = (c.kind, (if c.kind = 1 then numB c.bytes.length ++ c.bytes else []), 0) := rdNum_numB (by omega) (by omega) _
  have R2 := Lib.hid r2; clear r2
  go_wp2_with fail
  refine (VNum_is gr 0 _ 1 w4 H4.out.rd (by omega) (by omega) R2.out).mono ?_
  rintro e w5 ⟨rfl, hr5, ht5⟩
  have H5 := Lib.hid (H4.out.move hr5 ht5)
  clear hr5 ht5
  have v5 := H5.out.var
  have c5 : w5.cell? ⟨V, 1, none⟩ = some (.int .i64 0) := row_cell v5 1
  have f5 := row_frozen v5 1
  have H6 := Lib.hid (H5.out.store (by simp) 1 (.int .i64 (c.kind : Int)))
  clear v5
  obtain ⟨w6, hw6⟩ : ∃ w6, w5.setCell ⟨V, 1, none⟩ (.int .i64 (c.kind : Int)) = w6 := ⟨_, rfl⟩
  rw [hw6] at H6
  have c6 : w6.cell? ⟨V, 1, none⟩ = some (.int .i64 (c.kind : Int)) := row_cell H6.out.var 1
  clear c3 f3 hw4 hw0 hw2
  rcases hkd with hk | hk
  · have hd : ((c.kind : Int) == 1) = false := by rw [hk]; rfl
    have Hk := Lib.hid hk; clear hk
    have Hl := Lib.hid (show (if c.kind = 1 then numB c.bytes.length ++ c.bytes else []) = ([] : List UInt8) from if_neg (by rw [Hk.out]; omega))
    rw [Hl.out] at H6
    have Hz := Lib.hid (show c.bytes = [] by
      have := Hk.out
      unfold Chg.kind at this
      unfold Chg.bytes
      cases hv : c.val with
      | none => rfl
      | some b => rw [hv] at this; simp at this)
    go_wp2_with (first
      | (go_at_call 127; refine (End_any gr 0 [] w6 H6.out.rd).mono ?_; rintro e w7 ⟨rfl, rfl⟩)
      | (refine wpList_load_row rfl 142 (.tmp 5) rfl V rfl 142 #[.int .i64 c.key, .int .i64 (c.kind : Int), .slice none 0 0] (0, 0) _ H6.out.var Tryz.underlying142 rfl chg_info ?_)
      | (refine wpList_store_row rfl 142 (.tmp 2) (.tmp 24) rfl w.heap.size #[.int .i64 c.key, .int .i64 (c.kind : Int), .slice none 0 0] rfl rfl 142 _ H6.out.res chg_info rfl (by simp [Value.oneCell']) ?_))
    have hrp := vrow_put H6.out.res H6.out.below (new := #[.int .i64 c.key, .int .i64 (c.kind : Int), .slice none 0 0])
    refine bodyPost_ret (v := .tuple #[.agg #[.int .i64 c.key, .int .i64 (c.kind : Int), .slice none 0 0], .bool true]) (results_cell_two rfl _ _ w.heap.size 142 #[.int .i64 c.key, .int .i64 (c.kind : Int), .slice none 0 0] (0, 0) _ (.bool true) rfl rfl hrp.1 Tryz.underlying142 rfl chg_info) rfl ?_
    exact ⟨none, 0, by unfold chgV; rw [Hz.out]; rfl, by rw [Hz.out]; exact World.ownsRow_nil _ _ _ _, hrp.2⟩
  · have hd : ((c.kind : Int) == 1) = true := by rw [hk]; rfl
    have Hk := Lib.hid hk; clear hk
    have r3 : rdText (if c.kind = 1 then numB c.bytes.length ++ c.bytes else []) 0 900 = (c.bytes, [], 0) := by
      rw [if_pos Hk.out]
      have := rdText_text (b := c.bytes) (most := 900) (by omega) (by omega) []
      rwa [List.append_nil] at this
    have R3 := Lib.hid r3; clear r3
    go_wp2_with fail
    refine (VText_is gr 0 _ 900 w6 H6.out.rd (by omega) (by omega) R3.out rfl).mono ?_
    rintro e w7 ⟨A7, c7, rfl, hown7, hr7, ht7⟩
    have H7 := Lib.hid (H6.out.move hr7 ht7)
    have Hown7 := Lib.hid (own_base hown7 H6.out.below.size)
    have Hlt7 := Lib.hid hown7
    clear hr7 ht7 hown7
    have v7 := H7.out.var
    have c7' : w7.cell? ⟨V, 2, none⟩ = some (.slice none 0 0) := row_cell v7 2
    have f7 := row_frozen v7 2
    have H8 := Lib.hid (H7.out.store (by simp) 2 (.slice A7 c.bytes.length c7))
    have Hown8 := Lib.hid (show (w7.setCell ⟨V, 2, none⟩ (.slice A7 c.bytes.length c7)).ownsRow w.heap.size 5 1 (.slice A7 c.bytes.length c7) c.bytes.length (bytesV c.bytes) from by
      refine (Turned.setCell (Turned.refl (fun k => k = V) w7) (b := ⟨V, 2, none⟩) (fun _ => rfl) _).own Hown7.out fun k hk e => ?_
      obtain ⟨cs, hb⟩ := row_block Hown7.out hk
      rw [e, v7] at hb
      injection hb with hb
      injection hb with _ h2
      exact absurd h2 (by decide))
    clear v7
    obtain ⟨w8, hw8⟩ : ∃ w8, w7.setCell ⟨V, 2, none⟩ (.slice A7 c.bytes.length c7) = w8 := ⟨_, rfl⟩
    rw [hw8] at H8 Hown8
    go_wp2_with (first
      | (go_at_call 127; refine (End_any gr 0 [] w8 H8.out.rd).mono ?_; rintro e w9 ⟨rfl, rfl⟩)
      | (refine wpList_load_row rfl 142 (.tmp 5) rfl V rfl 142 #[.int .i64 c.key, .int .i64 (c.kind : Int), .slice A7 c.bytes.length c7] (0, 0) _ H8.out.var Tryz.underlying142 rfl chg_info ?_)
      | (refine wpList_store_row rfl 142 (.tmp 2) (.tmp 24) rfl w.heap.size #[.int .i64 c.key, .int .i64 (c.kind : Int), .slice A7 c.bytes.length c7] rfl rfl 142 _ H8.out.res chg_info rfl (by simp [Value.oneCell']) ?_))
    have hrp := vrow_put H8.out.res H8.out.below (new := #[.int .i64 c.key, .int .i64 (c.kind : Int), .slice A7 c.bytes.length c7])
    refine bodyPost_ret (v := .tuple #[.agg #[.int .i64 c.key, .int .i64 (c.kind : Int), .slice A7 c.bytes.length c7], .bool true]) (results_cell_two rfl _ _ w.heap.size 142 #[.int .i64 c.key, .int .i64 (c.kind : Int), .slice A7 c.bytes.length c7] (0, 0) _ (.bool true) rfl rfl hrp.1 Tryz.underlying142 rfl chg_info) rfl ?_
    refine ⟨A7, c7, rfl, ?_, hrp.2⟩
    have hT : Turned (fun k => k = w.heap.size) w8 (w8.setRow w.heap.size #[.int .i64 c.key, .int .i64 (c.kind : Int), .slice A7 c.bytes.length c7]) := ⟨rfl, rfl, rfl, by simp, fun k _ hk => setRow_other _ _ k _ hk⟩
    refine hT.own Hown8.out fun k hk e => ?_
    obtain ⟨cs, hb⟩ := row_block Hown8.out hk
    rw [e, H8.out.res] at hb
    injection hb with hb
    injection hb with _ h2
    exact absurd h2 (by decide)
end Go.Proofs.YtdlgihgdpdiglaaGreat
end

section
namespace Go.Proofs.YtdlgihgdpdiglaaGreat
open Go.ChangeShapes Go.WideShapes Go.ChangeAt Go.RowKit Go.Maps
set_option linter.unusedVariables false

/-- one text, in a slice of one -/
theorem TextsAt.one {w0 wt w : World} {At : Option Addr} {m ct : Nat} {t : List UInt8} (h0 : w0.heap.size ≤ wt.heap.size) (h : w.ownsRow wt.heap.size 5 1 (.slice At m ct) m (bytesV t)) (hw : w0.heap.size ≤ w.heap.size) (hm : t.length = m) (hm6 : m ≤ 1000000) :
    TextsAt w0 (some ⟨w.heap.size, 0, none⟩) 1 1 [t] (w.alloc (.cells #[.slice At m ct] 39)) := by
  have hlt : ∀ g o, At = some ⟨g, o, none⟩ → wt.heap.size ≤ g ∧ g < w.heap.size := fun g o e => by
    subst e
    rcases h.2 with ⟨e, _⟩ | ⟨g', cap, cur, e, hg', hh, _⟩
    · cases e
    · injection e with e
      injection e with e
      injection e with e1 e2
      subst e1
      exact ⟨hg', (Array.getElem?_eq_some_iff.1 hh).1⟩
  refine ⟨rfl, [(At, m, ct)], ⟨by simp [listsV], .inr ⟨w.heap.size, 1, _, rfl, hw, heap_alloc_new w _, Nat.le_refl _, by unfold maxLen; omega, rfl, rfl⟩⟩, ⟨rfl, fun i A n c hi => ?_⟩, fun i A n c hi g o e => ?_, fun i A n c hi g o e => ?_⟩
  · cases i with
    | zero => simp at hi; obtain ⟨rfl, rfl, rfl⟩ := hi; exact ⟨t, rfl, hm, hm6, (Seen.of_own h).alloc _⟩
    | succ i => simp at hi
  · cases i with
    | zero => simp at hi; obtain ⟨rfl, rfl, rfl⟩ := hi; exact Nat.le_trans h0 (hlt g o e).1
    | succ i => simp at hi
  · cases i with
    | zero =>
      simp at hi; obtain ⟨rfl, rfl, rfl⟩ := hi
      have := (hlt g o e).2
      exact ⟨by simp; omega, fun e' => by simp [Value.ownBlock] at e'; omega⟩
    | succ i => simp at hi
/-- a row of another kind is kept by an append -/
theorem own_grown {w w' : World} {B B' n n' : Nat} {e e' : TypeId} {v v' : Value} {xs xs' : List Value} (h : w.ownsRow B e 1 v n xs) (h' : w.ownsRow B' e' 1 v' n' xs') (hg : w.grownBy w' v'.ownBlock) (hne : e ≠ e') : w'.ownsRow B e 1 v n xs :=
  (Turned.of_grown hg (p := fun k => v'.ownBlock = some k) fun _ e => e).own h fun k hk hk' => by
    obtain ⟨cs, hb⟩ := row_block h hk
    obtain ⟨cs', hb'⟩ := row_block h' hk'
    rw [hb] at hb'
    injection hb' with hb'
    injection hb' with _ e
    exact hne e
theorem vals_grown {w w' : World} {B B' m n' : Nat} {e' : TypeId} {v' : Value} {x : Vals} {xs' : List Value} (h : ValsAt w B m x) (h' : w.ownsRow B' e' 1 v' n' xs') (hg : w.grownBy w' v'.ownBlock) (hne : e' ≠ 5) : ValsAt w' B m x :=
  h.turned (Turned.of_grown hg (p := fun k => v'.ownBlock = some k) fun _ e => e) fun k hk _ => by
    obtain ⟨cs', hb'⟩ := row_block h' hk
    exact ⟨_, _, _, hb', hne⟩

/-- where the loop stands -/
def CpAt (w : World) (B m : Nat) (x : Vals) (Ak : Option Addr) (ck : Nat) (A : Option Addr) (c i : Nat) (wr : World) : Prop :=
  TextsAt w A (i + 1) c ((cpTexts x).take (i + 1)) wr ∧ ValsAt wr B m x ∧ wr.ownsRow w.heap.size 3 1 (.slice Ak x.length ck) x.length (keysV x) ∧ Below w.heap.size w wr
theorem cp_snoc {x : Vals} {i : Nat} {p : Int × List UInt8} (h : x[i]? = some p) : (cpTexts x).take (i + 1) ++ [keyText p] = (cpTexts x).take (i + 1 + 1) := by
  obtain ⟨hi, e⟩ := List.getElem?_eq_some_iff.1 h
  rw [List.take_succ_eq_append_getElem (i := i + 1) (by rw [cpTexts_length]; omega)]
  congr 2
  simp [cpTexts, e]

set_option maxRecDepth 100000 in
set_option maxHeartbeats 2000000 in
theorem checkpointOf_any (B m : Nat) (x : Vals) (w : World) (h : ValsAt w B m x) (hx : GoodV x) (hl : x.length ≤ 10000) :
    Calls Tryz.prog 216 #[.map (some m)] w fun e w' => ∃ A c, e = .returned (.slice A (x.length + 1) c) ∧ TextsAt w A (x.length + 1) c (cpTexts x) w' ∧ Below w.heap.size w w' := by
  have H := Lib.hid h
  have hup := hx.up
  obtain ⟨n, hn⟩ : ∃ n, x.length = n := ⟨_, rfl⟩
  have Hn := Lib.hid hn
  have hnl := numB_len9 (n := n) (by omega)
  obtain ⟨w0, hw0⟩ : ∃ w0, w.alloc (.cells #[.slice none 0 0] 175) = w0 := ⟨_, rfl⟩
  have Z0 := Lib.hid (show IsW w0 w.heap.size w.heap.size none [] by rw [← hw0]; exact IsW.zero w _ (Nat.le_refl _))
  have Hb0 := Lib.hid (show Below w.heap.size w w0 by rw [← hw0]; exact (Below.refl _ _).alloc (Nat.le_refl _) _)
  have Hv0 := Lib.hid (h.below Hb0.out)
  clear h
  go_enter Tryz.func216, Tryz.ntmps216
  go_wp2_with (at_len; refine wpList_lenV rfl _ rfl B m x rfl Hv0.out ?_)
  refine (WNum_any _ _ none [] n w0 Z0.out (by simp) (by omega) (by omega)).mono ?_
  rintro e w1 ⟨rfl, hg1⟩
  have Hb1 := Lib.hid (Hb0.out.trans (GrewW.below Z0.out hg1))
  obtain ⟨r1, hw1, _, _⟩ := hg1
  rw [List.nil_append, Int.toNat_natCast] at hw1
  have Hw1 := Lib.hid hw1
  clear hw1
  go_wp2_with fail
  refine (WBytes_any _ _ r1 (numB n) w1 Hw1.out (by omega)).mono ?_
  rintro e w2 ⟨A2, c2, rfl, hown2, hb2⟩
  rw [bytes_length] at hown2 ⊢
  have Hb2 := Lib.hid (Hb1.out.trans (hb2.mono Hb1.out.size))
  have hone := TextsAt.one (w0 := w) Hb1.out.size hown2 Hb2.out.size rfl (by omega)
  obtain ⟨w3, hw3⟩ : ∃ w3, w2.alloc (.cells #[.slice A2 (numB n).length c2] 39) = w3 := ⟨_, rfl⟩
  have Hb3 := Lib.hid (show Below w.heap.size w w3 by rw [← hw3]; exact Hb2.out.alloc Hb2.out.size _)
  rw [hw3] at hone
  have Hone := Lib.hid hone
  have Hv3 := Lib.hid (H.out.below Hb3.out)
  clear hone hown2 hb2
  obtain ⟨b2, hb2'⟩ : ∃ b2, w2.heap.size = b2 := ⟨_, rfl⟩
  rw [hb2'] at Hone
  go_wp2_with fail
  refine (Keys_any m w3).mono ?_
  rintro e w4 ⟨rfl, rfl⟩
  go_wp2_with fail
  refine (Sorted_any B m x w3 Hv3.out hup (by omega)).mono ?_
  rintro e w5 ⟨Ak, ck, rfl, hown5, hb5⟩
  rw [hn] at hown5
  have Hown5 := Lib.hid (own_base hown5 Hb3.out.size)
  have Hb5 := Lib.hid (Hb3.out.trans (hb5.mono Hb3.out.size))
  have Hone5 := Lib.hid (Hone.out.below hb5)
  have Hv5 := Lib.hid (Hv3.out.below hb5)
  clear hown5 hb5 hw0 hw3 hb2' hnl
  go_wp2
  go_loopw [4, 17] (fun tv iv wr => ∃ A c i, tv = .slice A (i + 1) c ∧ iv = .int .i64 ((i : Nat) : Int) ∧ i ≤ n ∧ CpAt w B m x Ak ck A c i wr) (fun _ iv _ => n - (intOf iv).toNat)
  case atStart => exact ⟨_, 1, 0, rfl, rfl, Nat.zero_le _, by have := Hone5.out; rw [← Hn.out] at this; exact this, Hv5.out, by rw [Hn.out]; exact Hown5.out, Hb5.out⟩
  case round =>
    obtain ⟨A, c, i, rfl, rfl, hin, hts, hv, hks, hbw⟩ := hrel
    have Hv := Lib.hid hv; have Hks := Lib.hid hks; have Hbw := Lib.hid hbw; have Hts := Lib.hid hts
    clear hv hks hbw hts
    by_cases hlt : i < n
    · obtain ⟨p, hp⟩ : ∃ p, x[i]? = some p := ⟨x[i]'(by omega), List.getElem?_eq_getElem _⟩
      have hpx := hx.all p (List.mem_of_getElem? hp)
      have hkt := keyText_len hpx.2.1 hpx.2.2
      have Hp := Lib.hid hp
      have hkl := numB_len9 (n := p.1.toNat) (by omega)
      have hks := Seen.of_own Hks.out
      obtain ⟨gk, ok, hAk, hck⟩ := hks.at_ (j := i) (by rw [keysV_length, Hn.out]; exact hlt)
      rw [show (keysV x)[i]'(by rw [keysV_length, Hn.out]; exact hlt) = .int .i64 p.1 by
        have := (List.getElem?_eq_some_iff.1 hp).2
        simp only [keysV, List.getElem_map, this]] at hck
      subst hAk
      obtain ⟨w6, hw6⟩ : ∃ w6, wr.alloc (.cells #[.slice none 0 0] 175) = w6 := ⟨_, rfl⟩
      have Z6 := Lib.hid (show IsW w6 wr.heap.size wr.heap.size none [] by rw [← hw6]; exact IsW.zero wr _ (Nat.le_refl _))
      have Hb6 := Lib.hid (show Below wr.heap.size wr w6 by rw [← hw6]; exact (Below.refl _ _).alloc (Nat.le_refl _) _)
      clear hp hks
      go_wp2_with fail
      refine (WNum_any _ _ none [] p.1 w6 Z6.out (by simp) (by omega) (by omega)).mono ?_
      rintro e w7 ⟨rfl, hg7⟩
      have Hb7 := Lib.hid (Hb6.out.trans (GrewW.below Z6.out hg7))
      obtain ⟨r7, hw7, _, _⟩ := hg7
      rw [List.nil_append] at hw7
      have Hw7 := Lib.hid hw7
      clear hw7
      go_wp2_with (at_lookup; refine wpList_getV0 wr rfl _ _ rfl B m x p.1 rfl rfl Hv.out Hb7.out (by omega) (by omega) ?_; intro Av nv cv bs hbs hgot; have Hbs := Lib.hid hbs; have Hgot := Lib.hid hgot; clear hbs hgot)
      have hpb : (p.1, bs) = p := by
        rcases Hgot.out.2 with ⟨_, h2⟩ | ⟨h2, _, _⟩
        · exact rising_one hx.up h2 (List.mem_of_getElem? Hp.out) rfl
        · rw [(hasV_iff (x := x) (k := p.1)).2 ⟨p, List.mem_of_getElem? Hp.out, rfl⟩] at h2; cases h2
      have hbl : bs.length ≤ 900 := by rw [← hpb] at hpx; exact hpx.2.2
      have hkt2 : numB p.1.toNat ++ (numB nv ++ bs) = keyText p := by
        unfold keyText
        rw [← Hbs.out]
        rw [show p.2 = bs from (congrArg Prod.snd hpb).symm]
      have Hkt2 := Lib.hid hkt2
      have hnvl := Hbs.out
      refine (WText_any _ _ r7 (numB p.1.toNat) bs Av nv cv w7 Hw7.out (by omega) Hbs.out (by omega) (fun w' ht => (Seen.of_own (show wr.ownsRow B 5 1 (.slice Av nv cv) nv (bytesV bs) by have := Hgot.out.1; rwa [Hbs.out] at this)).below (Hb7.out.trans (ht.below (fun k hk => by
        rcases hk with rfl | hk
        · exact Nat.le_refl _
        · exact (Hw7.out.lt.2 k hk).1) Hb7.out.size)))).mono ?_
      rintro e w8 ⟨rfl, hg8⟩
      have Hb8 := Lib.hid (Hb7.out.trans (GrewW.below Hw7.out hg8))
      obtain ⟨r8, hw8, _, _⟩ := hg8
      rw [Hkt2.out] at hw8
      have Hw8 := Lib.hid hw8
      clear hw8 hkt2
      go_wp2_with fail
      refine (WBytes_any _ _ r8 (keyText p) w8 Hw8.out (by omega)).mono ?_
      rintro e w9 ⟨At, ct, rfl, hown9, hb9⟩
      rw [bytes_length] at hown9 ⊢
      obtain ⟨T, hT⟩ : ∃ T, (keyText p).length = T := ⟨_, rfl⟩
      rw [hT] at hown9 hkt ⊢
      have Hb9 := Lib.hid (Hb8.out.trans (hb9.mono Hb8.out.size))
      have Hts9 := Lib.hid (Hts.out.below Hb9.out)
      obtain ⟨hn9, ls, k1, k2, k3, k4⟩ := Hts9.out
      have K1 := Lib.hid k1; have K2 := Lib.hid k2; have K3 := Lib.hid k3; have K4 := Lib.hid k4
      have Hown9 := Lib.hid hown9
      have Hrow := Lib.hid (show ∀ k, (Value.slice A (i + 1) c).ownBlock = some k → k < w8.heap.size from fun k hk => by
        obtain ⟨_, ls', k1', _⟩ := Hts.out
        have := (k1'.lt k hk).2
        have := Hb8.out.size
        omega)
      have H5 := Lib.hid (show w.heap.size ≤ w8.heap.size from Nat.le_trans Hbw.out.size Hb8.out.size)
      have HT := Lib.hid hT; have Hn9 := Lib.hid hn9
      have Hv9 := Lib.hid ((Hv.out.below Hb9.out).below ((Below.refl w9.heap.size w9).alloc (Nat.le_refl _) (.cells #[.slice At T ct] 39)))
      have Hk9 := Lib.hid (own_below (own_below Hks.out Hb9.out) ((Below.refl w9.heap.size w9).alloc (Nat.le_refl _) (.cells #[.slice At T ct] 39)))
      have hb9' := Hbw.out.trans (Hb9.out.mono Hbw.out.size)
      have Hbw9 := Lib.hid hb9'
      have hw9 : w.heap.size ≤ w9.heap.size := hb9'.size
      clear k1 k2 k3 k4 hb9 hT hown9 hn9 hb9' hw6 hck hpb
      go_wp2_with (at_builtin; refine wpList_app2 rfl (.tmp 27) (.tmp 29) _ rfl 39 _ 24 Tryz.underlying67 texts_info rfl w.heap.size A (i + 1) c (listsV ls) rfl (K1.out.alloc _) (some ⟨w9.heap.size, 0, none⟩) 1 1 [.slice At T ct] rfl rfl (Seen.of_cells (heap_alloc_new w9 _)) (by simp [Value.oneCell']) (by unfold maxLen; omega) (by omega) (by simp; omega) ?_; intro A7 c7 wz hown7 hg7 hr7; have Hts7 := Lib.hid (TextsAt.snoc Hn9.out K2.out K3.out K4.out K1.out HT.out (by omega) H5.out Hown9.out Hrow.out ((Below.refl w9.heap.size w9).alloc (Nat.le_refl _) _) hg7 hr7 hown7); have Hb7' := Lib.hid (((Below.refl w.heap.size w9).alloc hw9 _).grown hg7 (by simp; omega) (fun k hk => (K1.out.lt k hk).1)); have Hvz := Lib.hid (vals_grown Hv9.out (K1.out.alloc _) hg7 (by decide)); have Hkz := Lib.hid (own_grown Hk9.out (K1.out.alloc _) hg7 (by decide)); clear hown7 hg7 hr7)
      go_roundw
      case rel => exact ⟨A7, c7, i + 1, rfl, by go_num, by omega, by have := Hts7.out; rwa [cp_snoc Hp.out] at this, Hvz.out, Hkz.out, Hbw9.out.trans Hb7'.out⟩
      case measure => simp [intOf]; omega
    · obtain rfl : i = n := by omega
      go_wp2
      go_ret
      have := Hts.out
      rw [List.take_of_length_le (by rw [cpTexts_length, Hn.out]; omega)] at this
      rw [Hn.out]
      exact ⟨A, c, rfl, this, Hbw.out⟩
end Go.Proofs.YtdlgihgdpdiglaaGreat

namespace Go.Proofs.YtdlgihgdpdiglaaGreat
open Go.ChangeShapes Go.WideShapes Go.ChangeAt Go.RowKit Go.Maps
set_option linter.unusedVariables false

/-- texts that are read through a slice -/
def TextsSeen (w : World) (A : Option Addr) (ts : List (List UInt8)) : Prop := ∃ ls, Seen w A (listsV ls) ∧ Lists w ls ts
theorem TextsAt.seen {w0 w : World} {A : Option Addr} {n c : Nat} {ts : List (List UInt8)} (h : TextsAt w0 A n c ts w) : TextsSeen w A ts := by
  obtain ⟨_, ls, h1, h2, _⟩ := h
  exact ⟨ls, Seen.of_own h1, h2⟩
theorem TextsSeen.below {w w' : World} {A : Option Addr} {ts : List (List UInt8)} (h : TextsSeen w A ts) (hb : Below w.heap.size w w') : TextsSeen w' A ts := by
  obtain ⟨ls, h1, h2⟩ := h
  exact ⟨ls, h1.below hb, h2.below hb⟩
theorem listsV_length (ls : List (Option Addr × Nat × Nat)) : (listsV ls).length = ls.length := by simp [listsV]
theorem TextsSeen.at_ {w : World} {A : Option Addr} {ts : List (List UInt8)} (h : TextsSeen w A ts) {i : Nat} {t : List UInt8} (hi : ts[i]? = some t) :
    ∃ g o At nt ct, A = some ⟨g, o, none⟩ ∧ w.cell? ⟨g, o + i, none⟩ = some (.slice At nt ct) ∧ t.length = nt ∧ nt ≤ 1000000 ∧ Seen w At (bytesV t) := by
  obtain ⟨ls, h1, h2, h3⟩ := h
  have hlt := (List.getElem?_eq_some_iff.1 hi).1
  obtain ⟨g, o, hA, hc⟩ := h1.at_ (j := i) (by rw [listsV_length, h2]; exact hlt)
  obtain ⟨⟨At, nt, ct⟩, hl⟩ : ∃ l, ls[i]? = some l := ⟨ls[i]'(by omega), List.getElem?_eq_getElem _⟩
  obtain ⟨b, hb, hn, hn6, hs⟩ := h3 i At nt ct hl
  rw [hi] at hb
  injection hb with hb
  subst hb
  refine ⟨g, o, At, nt, ct, hA, ?_, hn, hn6, hs⟩
  rw [hc]
  have := (List.getElem?_eq_some_iff.1 hl).2
  simp only [listsV, List.getElem_map, this]
/-- the texts from the second on -/
theorem TextsSeen.tail {w : World} {A : Option Addr} {t : List UInt8} {ts : List (List UInt8)} {c : Nat} (h : TextsSeen w A (t :: ts)) (hc : ts.length + 1 ≤ c) : TextsSeen w (if c = 1 then A else A.map (·.add 1)) ts := by
  obtain ⟨ls, h1, h2, h3⟩ := h
  refine ⟨ls.drop 1, ?_, ?_, fun i A n c hi => ?_⟩
  · have := h1.drop (k := 1) (cap := c) (by rw [listsV_length, h2]; simpa using hc)
    rwa [listsV, ← List.map_drop] at this
  · rw [List.length_drop, h2]; simp
  · rw [List.getElem?_drop] at hi
    obtain ⟨b, hb, r⟩ := h3 (1 + i) A n c hi
    rw [show 1 + i = i + 1 by omega, List.getElem?_cons_succ] at hb
    exact ⟨b, hb, r⟩

theorem valuesOf_nil (A : Option Addr) (c : Nat) (w : World) :
    Calls Tryz.prog 63 #[.slice A 0 c] w fun e w' => e = .returned (.tuple #[.map none, .bool false]) ∧ w = w' := by
  go_enter Tryz.func63, Tryz.ntmps63
  go_wp2
  go_ret2
  exact ⟨rfl, rfl⟩

/-- the least key that may come -/
def leastOf (x : Vals) (i : Nat) : Int := if i = 0 then 0 else ((x[i - 1]?).map fun p => p.1 + 1).getD 0
theorem leastOf_succ {x : Vals} {i : Nat} {p : Int × List UInt8} (h : x[i]? = some p) : leastOf x (i + 1) = p.1 + 1 := by
  unfold leastOf
  rw [if_neg (by omega), Nat.add_sub_cancel, h]
  rfl
theorem leastOf_le {x : Vals} (hx : GoodV x) {i : Nat} {p : Int × List UInt8} (h : x[i]? = some p) : leastOf x i ≤ p.1 := by
  unfold leastOf
  split
  · exact (hx.all p (List.mem_of_getElem? h)).1
  · rename_i hi
    have hlt := (List.getElem?_eq_some_iff.1 h).1
    obtain ⟨q, hq⟩ : ∃ q, x[i - 1]? = some q := ⟨x[i - 1]'(by omega), List.getElem?_eq_getElem _⟩
    rw [hq]
    have h1 := (List.getElem?_eq_some_iff.1 hq).2
    have h2 := (List.getElem?_eq_some_iff.1 h).2
    have := List.pairwise_iff_getElem.1 hx.up (i - 1) i (by omega) hlt (by omega)
    rw [h1, h2] at this
    simp only [Option.map_some, Option.getD_some]
    omega
theorem put_take {x : Vals} (hx : Rising x) {i : Nat} {p : Int × List UInt8} (h : x[i]? = some p) : putV (x.take i) p.1 p.2 = x.take (i + 1) := by
  obtain ⟨hlt, e⟩ := List.getElem?_eq_some_iff.1 h
  rw [putV_last, List.take_succ_eq_append_getElem hlt, e]
  intro q hq
  obtain ⟨j, hj, rfl⟩ := List.mem_iff_getElem.1 hq
  rw [List.length_take] at hj
  rw [List.getElem_take, ← e]
  exact List.pairwise_iff_getElem.1 hx j i (by omega) hlt (by omega)

/-- where the loop stands -/
def OfAt (w : World) (m : Nat) (x : Vals) (i : Nat) (wr : World) : Prop := ValsAt wr w.heap.size m (x.take i) ∧ Below w.heap.size w wr

set_option maxRecDepth 100000 in
set_option maxHeartbeats 2000000 in
theorem valuesOf_cp (x : Vals) (A : Option Addr) (n c : Nat) (w : World) (hx : GoodV x) (hn : x.length = n) (hl : n ≤ 10000) (hc : n + 1 ≤ c) (hcm : c ≤ maxLen) (h : TextsSeen w A (cpTexts x)) :
    Calls Tryz.prog 63 #[.slice A (n + 1) c] w fun e w' => ∃ m, e = .returned (.tuple #[.map (some m), .bool true]) ∧ ValsAt w' w.heap.size m x ∧ Below w.heap.size w w' := by
  have H := Lib.hid h
  have Hn := Lib.hid hn
  have htail := Lib.hid (h.tail (c := c) (by simp; omega))
  obtain ⟨g, o, At, nt, ct, rfl, hcell, hnt, hnt6, hseen⟩ := h.at_ (i := 0) (t := numB x.length) (by simp [cpTexts])
  rw [hn] at hnt hseen
  have Hnt := Lib.hid hnt; have Hseen := Lib.hid hseen
  have hnl := numB_len9 (n := n) (by omega)
  have hne : ¬ (n : Int) + 1 = 0 := by omega
  have hpos : (0 : Int) < (n : Int) + 1 := by omega
  clear h hn hnt hseen
  have hz : ((n : Int) + 1 == 0) = false := by simp; omega
  rw [Nat.add_zero] at hcell
  go_enter Tryz.func63, Tryz.ntmps63
  go_wp2_with fail
  refine (NewR_any At nt ct (numB n) w Hnt.out hnt6 Hseen.out).mono ?_
  rintro e w1 ⟨gr, rfl, hgr, hr1, hb1⟩
  have Hb1 := Lib.hid hb1; have Hr1 := Lib.hid hr1
  clear hb1 hr1 hcell
  have r1 : rdNum (numB n) 0 (n : Int) = (n, [], 0) := by
    have := rdNum_numB (a := n) (most := (n : Int)) (Int.le_refl _) (by omega) []
    rwa [List.append_nil] at this
  have R1 := Lib.hid r1; clear r1
  go_wp2_with fail
  refine (VNum_is gr 0 (numB n) (n : Int) w1 Hr1.out (by omega) (by omega) R1.out).mono ?_
  rintro e w2 ⟨rfl, hr2, ht2⟩
  have Hb2 := Lib.hid (Hb1.out.trans (ht2.below (fun k hk => by rw [hk]; exact hgr) Hb1.out.size))
  have Hr2 := Lib.hid hr2
  clear hr2 ht2
  go_wp2_with fail
  refine (End_any gr 0 [] w2 Hr2.out).mono ?_
  rintro e w3 ⟨rfl, rfl⟩
  have Hv3 := Lib.hid (ValsAt.made w2 (B := w.heap.size) Hb2.out.size)
  have hmm := @run_makeMap Tryz.prog
  have Hb3 := Lib.hid (Hb2.out.alloc Hb2.out.size (.map #[] 0))
  obtain ⟨m, hm⟩ : ∃ m, w2.heap.size = m := ⟨_, rfl⟩
  rw [hm] at Hv3
  obtain ⟨w3, hw3⟩ : ∃ w3, w2.alloc (.map #[] 0) = w3 := ⟨_, rfl⟩
  rw [hw3] at Hv3 Hb3
  have hb1 : (1 : Int) ≤ (n : Int) + 1 := by omega
  have hb2 : (1 : Int) ≤ 1 + (n : Int) := by omega
  have hb3 : 1 + (n : Int) ≤ (c : Int) := by omega
  by_cases hc1 : c = 1
  · obtain rfl : n = 0 := by omega
    subst hc1
    go_wp2
    go_loopw [7, 34] (fun lv iv wr => lv = .int .i64 0 ∧ iv = .int .i64 0 ∧ wr = w3) (fun _ _ _ => 0)
    case atStart => exact ⟨rfl, rfl, rfl⟩
    case round =>
      obtain ⟨rfl, rfl, rfl⟩ := hrel
      go_wp2
      go_ret2
      have hx0 : x = [] := List.eq_nil_of_length_eq_zero Hn.out
      exact ⟨m, rfl, by rw [hx0]; exact Hv3.out, Hb3.out⟩
  · rw [if_neg hc1] at htail
    clear hcm
    go_wp2
    rw [show 1 + n - 1 = n by omega]
    clear hw3 hm hmm
    go_loopw [7, 34] (fun lv iv wr => ∃ i, lv = .int .i64 (leastOf x i) ∧ iv = .int .i64 ((i : Nat) : Int) ∧ i ≤ n ∧ OfAt w m x i wr) (fun _ iv _ => n - (intOf iv).toNat)
    case atStart => exact ⟨0, rfl, rfl, Nat.zero_le _, Hv3.out, Hb3.out⟩
    case round =>
      obtain ⟨i, rfl, rfl, hin, hv, hbw⟩ := hrel
      have Hv := Lib.hid hv; have Hbw := Lib.hid hbw
      clear hv hbw
      by_cases hlt : i < n
      · obtain ⟨p, hp⟩ : ∃ p, x[i]? = some p := ⟨x[i]'(by have := Hn.out; omega), List.getElem?_eq_getElem _⟩
        have hpx := hx.all p (List.mem_of_getElem? hp)
        have hle := leastOf_le hx hp
        have hsc := leastOf_succ hp
        have hpt := put_take hx.up hp
        have Hsc := Lib.hid hsc; have Hpt := Lib.hid hpt
        have hkt := keyText_len hpx.2.1 hpx.2.2
        obtain ⟨g2, o2, Ai, ni, ci, hA2, hcell, hni, hni6, hsi⟩ := (htail.out.below Hbw.out).at_ (i := i) (t := keyText p) (by rw [List.getElem?_map, hp]; rfl)
        simp only [Option.map_some, Addr.add_lit, Option.some.injEq, Addr.mk.injEq] at hA2
        obtain ⟨rfl, rfl, _⟩ := hA2
        have Hsi := Lib.hid hsi; have Hni := Lib.hid hni
        clear hsi hni hp hsc hpt
        go_wp2_with fail
        refine (NewR_any Ai ni ci (keyText p) wr Hni.out hni6 Hsi.out).mono ?_
        rintro e w5 ⟨gq, rfl, hgq, hr5, hb5⟩
        have Hb5 := Lib.hid hb5; have Hr5 := Lib.hid hr5
        clear hb5 hr5 hcell
        have r1 : rdNum (keyText p) 0 1099511627776 = (p.1.toNat, numB p.2.length ++ p.2, 0) := rdNum_numB (by omega) (by omega) _
        have R1' := Lib.hid r1; clear r1
        go_wp2_with fail
        refine (VNum_is gq 0 (keyText p) 1099511627776 w5 Hr5.out (by omega) (by omega) R1'.out).mono ?_
        rintro e w6 ⟨rfl, hr6, ht6⟩
        rw [Int.toNat_of_nonneg hpx.1]
        have Hb6 := Lib.hid (Hb5.out.trans (ht6.below (fun k hk => by rw [hk]; exact hgq) Hb5.out.size))
        have Hr6 := Lib.hid hr6
        clear hr6 ht6
        have r2 : rdText (numB p.2.length ++ p.2) 0 900 = (p.2, [], 0) := by
          have := rdText_text (b := p.2) (most := 900) (by omega) (by omega) []
          rwa [List.append_nil] at this
        have R2' := Lib.hid r2; clear r2
        go_wp2_with fail
        refine (VText_is gq 0 _ 900 w6 Hr6.out (by omega) (by omega) R2'.out rfl).mono ?_
        rintro e w7 ⟨A7, c7, rfl, hown7, hr7, ht7⟩
        have Hb7 := Lib.hid (Hb6.out.trans (ht7.below (fun k hk => by rw [hk]; exact hgq) Hb6.out.size))
        have Hr7 := Lib.hid hr7
        have Hown7 := Lib.hid (own_base hown7 (show w.heap.size ≤ w6.heap.size from Nat.le_trans Hbw.out.size Hb6.out.size))
        have Hv7 := Lib.hid (Hv.out.below Hb7.out)
        clear hr7 ht7 hown7
        go_wp2_with fail
        refine (End_any gq 0 [] w7 Hr7.out).mono ?_
        rintro e w8 ⟨rfl, rfl⟩
        have hdl : decide (p.1 < leastOf x i) = false := decide_eq_false (by omega)
        have htl : (x.take i).length ≤ 1000000 := by rw [List.length_take]; omega
        go_wp2_with (at_mapUpdate; go_loud (refine wpList_putV rfl _ _ _ rfl w.heap.size m (x.take i) p.1 (.slice A7 p.2.length c7) p.2 rfl rfl rfl Hv7.out (by omega) (by omega) htl Hown7.out ?_; intro w9 hv9 ht9; have Hv9 := Lib.hid hv9; have Ht9 := Lib.hid ht9; clear hv9 ht9))
        go_roundw
        case rel =>
          have hb9 : Below w.heap.size w w9 := (Hbw.out.trans (Hb7.out.mono Hbw.out.size)).trans (Ht9.out.below (fun k hk => by rw [hk]; exact Hv.out.lt.1) (Nat.le_trans Hbw.out.size Hb7.out.size))
          (repeat apply Exists.intro)
          refine ⟨⟨i + 1, ?_, ?_, by omega, by rw [← Hpt.out]; exact Hv9.out, hb9⟩, ?_⟩
          rotate_left 2
          · rfl
          · rw [Hsc.out]
          · go_num
        case measure => simp [intOf]; omega
      · obtain rfl : i = n := by omega
        go_wp2
        go_ret2
        have := Hv.out
        rw [List.take_of_length_le (by rw [Hn.out]; exact Nat.le_refl _)] at this
        exact ⟨m, rfl, this, Hbw.out⟩

/-! ### sectorsOf -/
theorem secsUp_take {gen : Nat} {ts : List (List UInt8)} {i : Nat} {t : List UInt8} (h : ts[i]? = some t) : secsUp gen 0 (ts.take (i + 1)) = secsUp gen 0 (ts.take i) + manyOf gen i t := by
  obtain ⟨hlt, e⟩ := List.getElem?_eq_some_iff.1 h
  rw [List.take_succ_eq_append_getElem hlt, secsUp_snoc, Nat.zero_add, List.length_take, Nat.min_eq_left (by omega), e]
theorem secsUp_small {gen : Nat} (hg : gen ≤ 1099511627776) : ∀ {ts : List (List UInt8)} {k : Nat}, (∀ t ∈ ts, t.length ≤ 930) → k + ts.length ≤ 1000000 → secsUp gen k ts ≤ 16 * ts.length
  | [], _, _, _ => Nat.le_refl _
  | t :: r, k, h, hk => by
    have h1 := many_small (gen := gen) (n := k) (t := t) hg (by simp at hk; omega) (h t (by simp))
    have h2 := secsUp_small hg (ts := r) (k := k + 1) (fun u hu => h u (by simp [hu])) (by simp at hk; omega)
    simp only [secsUp, List.length_cons]
    omega
set_option maxRecDepth 100000 in
set_option maxHeartbeats 2000000 in
theorem vsectorsOf_any (gen : Nat) (ts : List (List UInt8)) (A : Option Addr) (n c : Nat) (w : World) (hg : gen ≤ 1099511627776) (hn : ts.length = n) (hl : n ≤ 100000) (hsm : ∀ t ∈ ts, t.length ≤ 930) (h : TextsSeen w A ts) :
    Calls Tryz.prog 68 #[.int .i64 (gen : Int), .slice A n c] w fun e w' => e = .returned (.int .i64 (secsUp gen 0 ts : Int)) ∧ Below w.heap.size w w' := by
  have H := Lib.hid h
  have Hn := Lib.hid hn
  have Hsm := Lib.hid hsm
  have Hsec := Lib.hid (fun i => secsUp_small (gen := gen) hg (ts := ts.take i) (k := 0) (fun t ht => hsm t (List.mem_of_mem_take ht)) (by rw [List.length_take]; omega))
  clear h hsm
  go_enter Tryz.func68, Tryz.ntmps68
  go_wp2
  go_loopw [5, 12] (fun mv iv wr => ∃ i, mv = .int .i64 (secsUp gen 0 (ts.take i) : Int) ∧ iv = .int .i64 ((i : Nat) : Int) ∧ i ≤ n ∧ Below w.heap.size w wr) (fun _ iv _ => n - (intOf iv).toNat)
  case atStart => exact ⟨0, rfl, rfl, Nat.zero_le _, Below.refl _ _⟩
  case round =>
    obtain ⟨i, rfl, rfl, hin, hbw⟩ := hrel
    have Hbw := Lib.hid hbw
    clear hbw
    by_cases hlt : i < n
    · obtain ⟨t, ht⟩ : ∃ t, ts[i]? = some t := ⟨ts[i]'(by omega), List.getElem?_eq_getElem _⟩
      have hok : formE gen i t = 0 := form_ok hg (by omega) (Hsm.out t (List.mem_of_getElem? ht))
      have hm16 := many_small (gen := gen) (n := i) (t := t) hg (by omega) (Hsm.out t (List.mem_of_getElem? ht))
      have Hst := Lib.hid (secsUp_take (gen := gen) ht)
      have hsu := Hsec.out i
      rw [List.length_take] at hsu
      obtain ⟨g, o, At, nt, ct, rfl, hcell, hnt, hnt6, hseen⟩ := (H.out.below Hbw.out).at_ ht
      have Hok := Lib.hid hok; have Hnt := Lib.hid hnt; have Hseen := Lib.hid hseen
      obtain ⟨sv, hsv⟩ : ∃ sv, secsUp gen 0 (ts.take i) = sv := ⟨_, rfl⟩
      rw [hsv] at hsu Hst ⊢
      clear ht hok hnt hseen hsv
      go_wp2_with fail
      refine (Form_any (gen : Int) (i : Int) At nt ct t wr (by omega) (by omega) (by omega) (by omega) Hnt.out Hseen.out).mono ?_
      rintro e w1 ⟨hb1, (⟨h1, _⟩ | ⟨_, gf, rfl, hgf, hblk⟩)⟩
      · exact absurd Hok.out h1
      · rw [Int.toNat_natCast, Int.toNat_natCast]
        have Hb1 := Lib.hid (Hbw.out.trans (hb1.mono Hbw.out.size))
        obtain ⟨mm, hmm⟩ : ∃ mm, manyOf gen i t = mm := ⟨_, rfl⟩
        rw [hmm] at Hst hm16 ⊢
        have hq : ((64 * mm : Nat) : Int) / 64 = (mm : Int) := by omega
        clear hb1 hblk hmm hcell
        go_wp2
        go_roundw
        case rel => exact ⟨i + 1, by rw [Hst.out]; go_num, by go_num, by omega, Hb1.out⟩
        case measure => simp [intOf]; omega
    · obtain rfl : i = n := by omega
      go_wp2
      go_ret
      rw [List.take_of_length_le (by rw [Hn.out]; exact Nat.le_refl _)]
      exact ⟨rfl, Hbw.out⟩
end Go.Proofs.YtdlgihgdpdiglaaGreat
end
