/-
  Joined: JouMath, JouRun, JouS, JouF, JouT, JouScan, JouD. Conditions: each theorem's own.
-/
import Derived.Test.YtdlgihgdpdiglaaGreatJCrc
import Derived.Test.YtdlgihgdpdiglaaGreatJPack
import Derived.Test.YtdlgihgdpdiglaaGreatJSec
import Derived.Test.YtdlgihgdpdiglaaGreatJWords
import Derived.Test.YtdlgihgdpdiglaaGreatJTexts
import Derived.Deep.QuietTactic
import Derived.BigQuiet

section
namespace Go.Proofs.YtdlgihgdpdiglaaGreat
set_option linter.unusedVariables false

/-- a record's fields -/
def fieldsOf (gen n : Nat) (t : List UInt8) : List UInt8 := numB gen ++ numB n ++ (numB t.length ++ t)
/-- the rest of its form -/
def restB (gen n : Nat) (t : List UInt8) : List UInt8 := sealOf (fieldsOf gen n t)
def secsOf (rest : Nat) : Nat := (3 + rest + 64 - 1) / 64
def manyOf (gen n : Nat) (t : List UInt8) : Nat := secsOf (restB gen n t).length
def headOf (x : UInt8) (l : Nat) : List UInt8 := [x, UInt8.ofNat l, UInt8.ofNat (l / 256)]
def padOf (l : Nat) : List UInt8 := List.replicate (64 * secsOf l - (3 + l)) 0
/-- a record's form, with x as its first byte -/
def formX (x : UInt8) (gen n : Nat) (t : List UInt8) : List UInt8 := headOf x (restB gen n t).length ++ (restB gen n t ++ padOf (restB gen n t).length)
def formE (gen n : Int) (t : List UInt8) : Nat :=
  if gen < 0 ∨ 1099511627776 < gen ∨ n < 0 ∨ 1099511627776 < n then 5 else if 16 < manyOf gen.toNat n.toNat t then 15 else 0
/-- how many bytes the rest has, as bytes say -/
def restN (b : List UInt8) : Nat := (b.getD 1 0).toNat + 256 * (b.getD 2 0).toNat

theorem secs_le {r : Nat} : 3 + r ≤ 64 * secsOf r := by unfold secsOf; omega
theorem secs_pos (r : Nat) : 1 ≤ secsOf r := by unfold secsOf; omega
theorem secs_16 {r : Nat} (h : secsOf r ≤ 16) : r ≤ 1021 := by unfold secsOf at h; omega
theorem fields_length (gen n : Nat) (t : List UInt8) : (fieldsOf gen n t).length = (numB gen).length + (numB n).length + ((numB t.length).length + t.length) := by simp only [fieldsOf, List.length_append]
theorem rest_length (gen n : Nat) (t : List UInt8) : (restB gen n t).length = (fieldsOf gen n t).length + 4 := sealOf_length _
theorem rest_bound {gen n : Nat} {t : List UInt8} (hg : gen < 9223372036854775808) (hn : n < 9223372036854775808) (ht : t.length < 9223372036854775808) : (restB gen n t).length ≤ t.length + 31 := by
  have := numB_len9 hg; have := numB_len9 hn; have := numB_len9 ht
  rw [rest_length, fields_length]; omega
theorem text_small {gen n : Nat} {t : List UInt8} (h : manyOf gen n t ≤ 16) : t.length ≤ 1014 := by
  have := secs_16 h
  rw [rest_length, fields_length] at this
  have := numB_ne gen; have := numB_ne n; have := numB_ne t.length
  omega
theorem form_length (x : UInt8) (gen n : Nat) (t : List UInt8) : (formX x gen n t).length = 64 * manyOf gen n t := by
  have := secs_le (r := (restB gen n t).length)
  simp only [formX, headOf, padOf, List.length_append, List.length_cons, List.length_nil, List.length_replicate, manyOf]
  omega
theorem formE_zero {gen n : Int} {t : List UInt8} (h : formE gen n t = 0) : 0 ≤ gen ∧ gen ≤ 1099511627776 ∧ 0 ≤ n ∧ n ≤ 1099511627776 ∧ manyOf gen.toNat n.toNat t ≤ 16 := by
  unfold formE at h
  split at h
  · cases h
  · split at h
    · cases h
    · omega
theorem formE_nat {gen n : Nat} {t : List UInt8} (h : formE gen n t = 0) : gen ≤ 1099511627776 ∧ n ≤ 1099511627776 ∧ manyOf gen n t ≤ 16 := by
  have := formE_zero h
  simp only [Int.toNat_natCast] at this
  omega
theorem formE_mk {gen n : Nat} {t : List UInt8} (hg : gen ≤ 1099511627776) (hn : n ≤ 1099511627776) (hm : manyOf gen n t ≤ 16) : formE gen n t = 0 := by
  unfold formE
  rw [if_neg (by omega), if_neg (by simp only [Int.toNat_natCast]; omega)]

/-- what bytes say of a form at their beginning -/
theorem form_says {x : UInt8} {gen n : Nat} {t b : List UInt8} (hm : manyOf gen n t ≤ 16) (h : formX x gen n t <+: b) :
    b[0]? = some x ∧ restN b = (restB gen n t).length ∧ (b.drop 3).take (restN b) = restB gen n t ∧ manyOf gen n t = secsOf (restN b) ∧ formX x gen n t = b.take (64 * secsOf (restN b)) ∧ 64 * secsOf (restN b) ≤ b.length := by
  have hl := form_length x gen n t
  have h16 := secs_16 hm
  obtain ⟨c, hc⟩ := h
  have hr : restN b = (restB gen n t).length := by
    subst hc
    simp only [restN, formX, headOf, List.cons_append, List.getD_cons_succ, List.getD_cons_zero, UInt8.toNat_ofNat']
    omega
  have hb : b.length = 64 * manyOf gen n t + c.length := by rw [← hc, List.length_append, hl]
  refine ⟨?_, hr, ?_, by rw [hr]; rfl, ?_, by rw [hr, hb]; show 64 * manyOf gen n t ≤ _; omega⟩
  · subst hc; rfl
  · rw [hr, ← hc]
    show (((restB gen n t ++ padOf _) ++ c)).take _ = _
    rw [List.append_assoc, List.take_left]
  · rw [hr, ← hc]
    exact (List.take_left' (by rw [hl]; rfl)).symm

theorem numB_inj {a b : Nat} {x y : List UInt8} (ha : a < 9223372036854775808) (hb : b < 9223372036854775808) (h : numB a ++ x = numB b ++ y) : a = b ∧ x = y := by
  have h1 := numR_numB ha x
  rw [h, numR_numB hb y] at h1
  have e : a = b := (congrArg Prod.fst h1).symm
  subst e
  exact ⟨rfl, List.append_cancel_left h⟩
theorem fields_inj {gen n gen' n' : Nat} {t t' : List UInt8} (h1 : gen ≤ 1099511627776) (h2 : n ≤ 1099511627776) (h3 : gen' ≤ 1099511627776) (h4 : n' ≤ 1099511627776) (ht : t.length ≤ 1014) (ht' : t'.length ≤ 1014)
    (h : fieldsOf gen n t = fieldsOf gen' n' t') : gen = gen' ∧ n = n' ∧ t = t' := by
  unfold fieldsOf at h
  rw [List.append_assoc, List.append_assoc] at h
  obtain ⟨e1, h⟩ := numB_inj (by omega) (by omega) h
  obtain ⟨e2, h⟩ := numB_inj (by omega) (by omega) h
  obtain ⟨e3, h⟩ := numB_inj (by omega) (by omega) h
  exact ⟨e1, e2, h⟩

/-- a record of that generation, number and text stands at the beginning of bytes -/
def Stands (gen n : Nat) (t b : List UInt8) : Prop := formE gen n t = 0 ∧ formX 1 gen n t <+: b
theorem Stands.inj {gen n gen' n' : Nat} {t t' b : List UInt8} (h : Stands gen n t b) (h' : Stands gen' n' t' b) : gen = gen' ∧ n = n' ∧ t = t' := by
  obtain ⟨g1, g2, g3⟩ := formE_nat h.1
  obtain ⟨k1, k2, k3⟩ := formE_nat h'.1
  have a := (form_says g3 h.2).2.2.1
  have b := (form_says k3 h'.2).2.2.1
  have e : restB gen n t = restB gen' n' t' := a.symm.trans b
  have e2 : fieldsOf gen n t = fieldsOf gen' n' t' := by
    unfold restB sealOf at e
    exact (List.append_inj' e rfl).1
  exact fields_inj g1 g2 k1 k2 (text_small g3) (text_small k3) e2

/-- which records stand in bytes, one behind the other -/
def Stood (gen : Nat) : Nat → List UInt8 → List (List UInt8) → Prop
  | _, _, [] => True
  | k, b, t :: r => Stands gen k t b ∧ Stood gen (k + 1) (b.drop (64 * manyOf gen k t)) r
def secsUp (gen : Nat) : Nat → List (List UInt8) → Nat
  | _, [] => 0
  | k, t :: r => manyOf gen k t + secsUp gen (k + 1) r
theorem secsUp_snoc (gen : Nat) (t : List UInt8) : ∀ (k : Nat) (ts : List (List UInt8)), secsUp gen k (ts ++ [t]) = secsUp gen k ts + manyOf gen (k + ts.length) t
  | k, [] => by simp [secsUp]
  | k, u :: r => by
    simp only [List.cons_append, secsUp, secsUp_snoc gen t (k + 1) r, List.length_cons]
    rw [show k + 1 + r.length = k + (r.length + 1) by omega]
    omega
theorem secsUp_ge (gen : Nat) : ∀ (k : Nat) (ts : List (List UInt8)), ts.length ≤ secsUp gen k ts
  | _, [] => Nat.le_refl _
  | k, t :: r => by
    have := secsUp_ge gen (k + 1) r
    have := secs_pos (restB gen k t).length
    simp only [secsUp, List.length_cons, manyOf]
    omega
theorem Stood.snoc {gen : Nat} {t : List UInt8} : ∀ {k : Nat} {b : List UInt8} {ts : List (List UInt8)}, Stood gen k b ts → Stands gen (k + ts.length) t (b.drop (64 * secsUp gen k ts)) → Stood gen k b (ts ++ [t])
  | k, b, [], _, h => by
    have h' : Stands gen k t b := by simpa [secsUp] using h
    exact ⟨h', trivial⟩
  | k, b, u :: r, hs, h => by
    refine ⟨hs.1, Stood.snoc hs.2 ?_⟩
    rw [List.drop_drop, show k + 1 + r.length = k + (u :: r).length by simp; omega, show 64 * manyOf gen k u + 64 * secsUp gen (k + 1) r = 64 * secsUp gen k (u :: r) by simp [secsUp]; omega]
    exact h
theorem Stood.le {gen : Nat} : ∀ {k : Nat} {b : List UInt8} {ts : List (List UInt8)}, Stood gen k b ts → 64 * secsUp gen k ts ≤ b.length
  | _, _, [], _ => Nat.zero_le _
  | k, b, t :: r, h => by
    have h1 := Stood.le h.2
    have h2 := form_says (formE_nat h.1.1).2.2 h.1.2
    rw [List.length_drop, ] at h1
    have := h2.2.2.2.2.2
    rw [← h2.2.2.2.1] at this
    simp only [secsUp]
    omega
/-- the records that stand in a part's bytes: all, up to the first place at which none stands -/
def Scanned (gen : Nat) (b : List UInt8) (ts : List (List UInt8)) : Prop := Stood gen 0 b ts ∧ ∀ t, ¬ Stands gen ts.length t (b.drop (64 * secsUp gen 0 ts))
theorem stood_one {gen : Nat} : ∀ {k : Nat} {b : List UInt8} {ts us : List (List UInt8)}, Stood gen k b ts → (∀ t, ¬ Stands gen (k + ts.length) t (b.drop (64 * secsUp gen k ts))) → Stood gen k b us → (∀ t, ¬ Stands gen (k + us.length) t (b.drop (64 * secsUp gen k us))) → ts = us
  | k, b, [], [], _, _, _, _ => rfl
  | k, b, [], u :: us, _, h, h', _ => absurd (by simpa [secsUp] using h'.1) (h u)
  | k, b, t :: ts, [], h', _, _, h => absurd (by simpa [secsUp] using h'.1) (h t)
  | k, b, t :: ts, u :: us, h1, h2, h3, h4 => by
    obtain ⟨_, _, rfl⟩ := Stands.inj h1.1 h3.1
    congr 1
    refine stood_one h1.2 (fun x => ?_) h3.2 (fun x => ?_)
    · have := h2 x
      rwa [List.drop_drop, show k + 1 + ts.length = k + (t :: ts).length by simp; omega, show 64 * manyOf gen k t + 64 * secsUp gen (k + 1) ts = 64 * secsUp gen k (t :: ts) by simp [secsUp]; omega]
    · have := h4 x
      rwa [List.drop_drop, show k + 1 + us.length = k + (t :: us).length by simp; omega, show 64 * manyOf gen k t + 64 * secsUp gen (k + 1) us = 64 * secsUp gen k (t :: us) by simp [secsUp]; omega]
theorem Scanned.one {gen : Nat} {b : List UInt8} {ts us : List (List UInt8)} (h : Scanned gen b ts) (k : Scanned gen b us) : ts = us := stood_one h.1 (by simpa using h.2) k.1 (by simpa using k.2)
/-- where no record can begin -/
theorem no_stands {gen n : Nat} {t b : List UInt8} (h : b[0]? ≠ some 1) : ¬ Stands gen n t b := fun hs => h (form_says (formE_nat hs.1).2.2 hs.2).1

/-- forms in a row, with x as their first byte -/
def formsX (x : UInt8) (gen : Nat) : Nat → List (List UInt8) → List UInt8
  | _, [] => []
  | k, t :: r => formX x gen k t ++ formsX x gen (k + 1) r
theorem formsX_snoc (x : UInt8) (gen : Nat) (t : List UInt8) : ∀ (k : Nat) (ts : List (List UInt8)), formsX x gen k (ts ++ [t]) = formsX x gen k ts ++ formX x gen (k + ts.length) t
  | k, [] => by simp [formsX]
  | k, u :: r => by
    simp only [List.cons_append, formsX, formsX_snoc x gen t (k + 1) r, List.length_cons, List.append_assoc]
    rw [show k + 1 + r.length = k + (r.length + 1) by omega]
theorem formsX_length (x : UInt8) (gen : Nat) : ∀ (k : Nat) (ts : List (List UInt8)), (formsX x gen k ts).length = 64 * secsUp gen k ts
  | _, [] => rfl
  | k, t :: r => by simp only [formsX, secsUp, List.length_append, form_length, formsX_length x gen (k + 1) r]; omega
/-- forms in a row stand there -/
theorem stood_forms {gen : Nat} (c : List UInt8) : ∀ {k : Nat} {ts : List (List UInt8)}, (∀ (i : Nat) t, ts[i]? = some t → formE gen ((k + i : Nat) : Int) t = 0) → Stood gen k (formsX 1 gen k ts ++ c) ts
  | _, [], _ => trivial
  | k, t :: r, h => by
    have h0 := h 0 t rfl
    refine ⟨⟨by simpa using h0, ?_⟩, ?_⟩
    · simp only [formsX, List.append_assoc]
      exact List.prefix_append _ _
    · have e : (formsX 1 gen k (t :: r) ++ c).drop (64 * manyOf gen k t) = formsX 1 gen (k + 1) r ++ c := by
        simp only [formsX, List.append_assoc]
        exact List.drop_left' (form_length 1 gen k t)
      rw [e]
      exact stood_forms c fun i u hu => by
        have := h (i + 1) u (by simpa using hu)
        rwa [show k + (i + 1) = k + 1 + i by omega] at this
theorem zero_at {m : Nat} : (List.replicate m (0 : UInt8))[0]? ≠ some 1 := by
  cases m <;> simp [List.replicate_succ]
theorem scanned_forms {gen m : Nat} {ts : List (List UInt8)} (h : ∀ (i : Nat) t, ts[i]? = some t → formE gen (i : Int) t = 0) : Scanned gen (formsX 1 gen 0 ts ++ List.replicate m 0) ts := by
  refine ⟨stood_forms _ (fun i t hi => by rw [Nat.zero_add]; exact h i t hi), fun t => no_stands ?_⟩
  rw [List.drop_left' (formsX_length 1 gen 0 ts)]
  exact zero_at
theorem scanned_other {gen other m : Nat} {ts : List (List UInt8)} (hne : gen ≠ other) (h : ∀ (i : Nat) t, ts[i]? = some t → formE gen (i : Int) t = 0) : Scanned other (formsX 1 gen 0 ts ++ List.replicate m 0) [] := by
  refine ⟨trivial, fun t => ?_⟩
  simp only [secsUp, Nat.mul_zero, List.drop_zero, List.length_nil]
  cases ts with
  | nil => exact no_stands zero_at
  | cons u r =>
    intro hs
    have h1 : Stands gen 0 u (formsX 1 gen 0 (u :: r) ++ List.replicate m 0) := (stood_forms (gen := gen) (List.replicate m 0) (k := 0) (ts := u :: r) (fun i t hi => by rw [Nat.zero_add]; exact h i t hi)).1
    exact hne (h1.inj hs).1
theorem scanned_zeros (gen m : Nat) : Scanned gen (List.replicate m 0) [] := ⟨trivial, fun t => no_stands (by simpa [secsUp] using zero_at)⟩

/-! ### what a device shows -/
theorem snoc_ind {α : Type} {P : List α → Prop} (h0 : P []) (hs : ∀ l a, P l → P (l ++ [a])) (l : List α) : P l := by
  have h : ∀ n (l : List α), l.length = n → P l := by
    intro n
    induction n with
    | zero => intro l hl; rw [List.eq_nil_of_length_eq_zero hl]; exact h0
    | succ n ih =>
      intro l hl
      rcases List.eq_nil_or_concat l with rfl | ⟨l', a, rfl⟩
      · cases hl
      · rw [List.concat_eq_append] at hl ⊢
        exact hs _ _ (ih l' (by simpa using hl))
  exact h _ l rfl
def Dv.view (d : Dv) : List UInt8 := Go.Proofs.YtdlgihgdpdiglaaGreat.settle [] 0 d.L d.S
theorem kept_nil (k : Nat) : kept [] k = 64 := rfl
theorem view_length {d : Dv} (h : d.Ok) : d.view.length = d.n * 64 := settle_length [] d.L 0 d.S d.n h.S h.L
theorem newest_settle {n i : Nat} {S : List UInt8} (hS : S.length = n * 64) (hi : i < n) : ∀ (L : List (Nat × List UInt8)), (∀ p ∈ L, p.1 < n ∧ p.2.length = 64) → newest L S i = sec (settle [] 0 L S) i := by
  refine snoc_ind (fun _ => rfl) fun L p ih hL => ?_
  · 
    have hL' : ∀ q ∈ L, q.1 < n ∧ q.2.length = 64 := fun q hq => hL q (by simp [hq])
    have hp := hL p (by simp)
    have hlen := settle_length [] L 0 S n hS hL'
    rw [settle_snoc, kept_nil, List.take_of_length_le (by omega)]
    by_cases e : p.1 = i
    · rw [e, sec_put_same hlen hi (by omega), List.drop_eq_nil_of_le (by rw [sec_length hlen hi]; omega), List.append_nil]
      unfold newest
      simp [e]
    · rw [sec_put_other hlen hi hp.1 (by omega) e, ← ih hL']
      unfold newest
      simp [e]
theorem newest_view {d : Dv} (h : d.Ok) {i : Nat} (hi : i < d.n) : newest d.L d.S i = sec d.view i := newest_settle h.S hi d.L h.L
/-- the power is on, and there is no fuse -/
def Dv.Up (d : Dv) : Prop := d.fuse < 0 ∧ d.down = false
theorem up_burnt {d : Dv} (h : d.Up) : d.burnt = d := by
  have := h.1
  unfold Dv.burnt
  rw [if_neg (by omega), if_neg (by omega)]
theorem up_write {d : Dv} (h : d.Up) {i : Nat} {bs : List UInt8} (hi : i < d.n) (hb : bs.length = 64) : d.writeE i bs = 0 ∧ d.write i bs = { d with L := d.L ++ [(i, bs)] } := by
  have hd : ¬ d.down = true := by rw [h.2]; simp
  have hok : (0 : Int) ≤ (i : Int) ∧ (i : Int) < d.n ∧ bs.length = 64 := ⟨by omega, by omega, hb⟩
  unfold Dv.writeE Dv.write
  rw [up_burnt h, if_neg hd, if_pos hok, if_neg hd, if_pos hok, Int.toNat_natCast]
  exact ⟨rfl, rfl⟩
theorem up_flush {d : Dv} (h : d.Up) : d.flushE = 0 ∧ d.flush = { d with S := d.view, L := [] } := by
  have hd : ¬ d.down = true := by rw [h.2]; simp
  unfold Dv.flushE Dv.flush
  rw [up_burnt h, if_neg hd, if_neg hd]
  exact ⟨rfl, rfl⟩
/-- writes one behind the other, up to the first error -/
def Dv.puts (d : Dv) : List (Nat × List UInt8) → Nat × Dv
  | [] => (0, d)
  | p :: r => if d.writeE p.1 p.2 = 0 then Dv.puts (d.write p.1 p.2) r else (d.writeE p.1 p.2, d.write p.1 p.2)
theorem writeE_ways (d : Dv) {i : Nat} {bs : List UInt8} (hi : i < d.n) (hb : bs.length = 64) : d.writeE i bs = 0 ∨ d.writeE i bs = 16 := by
  unfold Dv.writeE
  split
  · exact .inr rfl
  · rw [if_pos ⟨by omega, by omega, hb⟩]; exact .inl rfl
theorem write_n (d : Dv) (i : Int) (bs : List UInt8) : (d.write i bs).n = d.n := by
  unfold Dv.write
  split
  · exact Dv.burnt_n d
  · split
    · exact Dv.burnt_n d
    · exact Dv.burnt_n d
theorem write_L (d : Dv) (i : Int) (bs : List UInt8) : (d.write i bs).L.length ≤ d.L.length + 1 := by
  unfold Dv.write
  split
  · rw [Dv.burnt_L]; omega
  · split
    · simp
    · rw [Dv.burnt_L]; omega
theorem puts_n : ∀ (l : List (Nat × List UInt8)) (d : Dv), (d.puts l).2.n = d.n
  | [], _ => rfl
  | p :: r, d => by
    rw [Dv.puts]
    split
    · rw [puts_n r, write_n]
    · exact write_n ..
theorem puts_ok : ∀ (l : List (Nat × List UInt8)) {d : Dv}, d.Ok → (d.puts l).2.Ok
  | [], _, h => h
  | p :: r, d, h => by
    rw [Dv.puts]
    split
    · exact puts_ok r (h.write ..)
    · exact h.write ..
theorem puts_L : ∀ (l : List (Nat × List UInt8)) (d : Dv), (d.puts l).2.L.length ≤ d.L.length + l.length
  | [], _ => Nat.le_refl _
  | p :: r, d => by
    rw [Dv.puts]
    have := write_L d p.1 p.2
    split
    · have := puts_L r (d.write p.1 p.2)
      simp only [List.length_cons]; omega
    · simp only [List.length_cons]; omega
theorem up_puts : ∀ {l : List (Nat × List UInt8)} {d : Dv}, d.Up → (∀ p ∈ l, p.1 < d.n ∧ p.2.length = 64) → d.puts l = (0, { d with L := d.L ++ l })
  | [], d, _, _ => by simp [Dv.puts]
  | p :: r, d, h, hl => by
    have hp := hl p (.head _)
    obtain ⟨h1, h2⟩ := up_write h hp.1 hp.2
    rw [Dv.puts, if_pos h1, h2, up_puts (d := { d with L := d.L ++ [(p.1, p.2)] }) h (fun q hq => hl q (.tail _ hq))]
    simp [List.append_assoc]
theorem view_more (d : Dv) (l : List (Nat × List UInt8)) (hl : ∀ p ∈ l, p.2.length = 64) : ({ d with L := d.L ++ l } : Dv).view = l.foldl (fun S p => put S (64 * p.1) p.2) d.view := by
  revert hl
  refine snoc_ind (P := fun l => (∀ p ∈ l, p.2.length = 64) → ({ d with L := d.L ++ l } : Dv).view = l.foldl (fun S p => put S (64 * p.1) p.2) d.view) (fun _ => by simp) (fun l p ih hl => ?_) l
  · have hp := hl p (by simp)
    have ih := ih fun q hq => hl q (by simp [hq])
    simp only [Dv.view] at ih ⊢
    rw [← List.append_assoc, settle_snoc, kept_nil, List.take_of_length_le (by omega), ih, List.foldl_append]
    rfl
/-- what is put behind what was put -/
theorem put_put {S a b : List UInt8} {o : Nat} (h : o + a.length + b.length ≤ S.length) : put (put S o a) (o + a.length) b = put S o (a ++ b) := by
  have h1 : (S.take o).length = o := by rw [List.length_take]; omega
  have h2 : (S.take o ++ a).length = o + a.length := by rw [List.length_append, h1]
  unfold put
  rw [List.take_left' h2, show (S.take o ++ a ++ S.drop (o + a.length)).drop (o + a.length + b.length) = S.drop (o + (a ++ b).length) by
    rw [← List.drop_drop, List.drop_left' h2, List.drop_drop, List.length_append, Nat.add_assoc]]
  simp only [List.append_assoc]
/-- the sectors of bytes, from the sector o on -/
def chunks (f : List UInt8) (o m : Nat) : List (Nat × List UInt8) := (List.range m).map fun i => (o + i, sec f i)
theorem chunks_succ (f : List UInt8) (o m : Nat) : chunks f o (m + 1) = chunks f o m ++ [(o + m, sec f m)] := by simp [chunks, List.range_succ]
theorem chunks_in {f : List UInt8} {o m n : Nat} (hf : f.length = m * 64) (hn : o + m ≤ n) : ∀ p ∈ chunks f o m, p.1 < n ∧ p.2.length = 64 := by
  intro p hp
  simp only [chunks, List.mem_map, List.mem_range] at hp
  obtain ⟨i, hi, rfl⟩ := hp
  exact ⟨by show o + i < n; omega, sec_length hf hi⟩
theorem take_sec {f : List UInt8} {m i : Nat} (hf : f.length = m * 64) (hi : i < m) : f.take (64 * (i + 1)) = f.take (64 * i) ++ sec f i := by
  rw [sec, show 64 * (i + 1) = 64 * i + 64 by omega, List.take_add]
/-- all sectors of bytes put one by one are the bytes put -/
theorem puts_chunks {f : List UInt8} {m : Nat} (hf : f.length = m * 64) {S : List UInt8} {o : Nat} : ∀ k, k ≤ m → 64 * (o + k) ≤ S.length → (chunks f o k).foldl (fun S p => put S (64 * p.1) p.2) S = put S (64 * o) (f.take (64 * k))
  | 0, _, h => by simp [chunks, put]
  | k + 1, hk, h => by
    rw [chunks_succ, List.foldl_append, puts_chunks hf k (by omega) (by omega), take_sec hf (by omega)]
    have hl : (f.take (64 * k)).length = 64 * k := by rw [List.length_take]; omega
    have := put_put (S := S) (a := f.take (64 * k)) (b := sec f k) (o := 64 * o) (by rw [hl, sec_length hf (by omega)]; omega)
    rw [hl] at this
    rw [← this]
    show put _ (64 * (o + k)) _ = _
    rw [show 64 * (o + k) = 64 * o + 64 * k by omega]
/-- what is put behind a front, over zeros -/
theorem put_zeros {a f : List UInt8} {m : Nat} (h : f.length ≤ m) : put (a ++ List.replicate m 0) a.length f = a ++ f ++ List.replicate (m - f.length) 0 := by
  unfold put
  rw [List.take_left' rfl, List.drop_append, List.drop_eq_nil_of_le (by omega), List.nil_append, List.drop_replicate]
  congr 2
  omega
/-- what is put over as many bytes -/
theorem put_over {a f f' c : List UInt8} (h : f.length = f'.length) : put (a ++ f' ++ c) a.length f = a ++ f ++ c := by
  have e1 : (a ++ f' ++ c).take a.length = a := by rw [List.append_assoc, List.take_left' rfl]
  have e2 : (a ++ f' ++ c).drop (a.length + f.length) = c := List.drop_left' (by rw [List.length_append, h])
  unfold put
  rw [e1, e2]
theorem form_cut (x : UInt8) (gen n : Nat) (t : List UInt8) : ∃ c, sec (formX x gen n t) 0 = x :: c ∧ c.length = 63 ∧ ∃ r, ∀ y, formX y gen n t = y :: (c ++ r) := by
  have hl := form_length x gen n t
  have h1 := secs_pos (restB gen n t).length
  have e : ∀ y, formX y gen n t = y :: (formX 0 gen n t).tail := fun y => rfl
  have hl2 : (formX 0 gen n t).tail.length = 64 * manyOf gen n t - 1 := by rw [List.length_tail, form_length]
  refine ⟨(formX 0 gen n t).tail.take 63, ?_, ?_, (formX 0 gen n t).tail.drop 63, fun y => ?_⟩
  · rw [e x]; rfl
  · rw [List.length_take, hl2]; unfold manyOf; omega
  · rw [List.take_append_drop]; exact e y
end Go.Proofs.YtdlgihgdpdiglaaGreat
end

section
namespace Go.Proofs.YtdlgihgdpdiglaaGreat
set_option linter.unusedVariables false

/-- a journal: its device, its generation, how many records, the sector behind them, the sector behind the part, what isn't whole as yet, is it dead -/
structure Jn where
  d : Dv
  gen : Nat
  k : Nat
  next : Nat
  fin : Nat
  L : List (Nat × List UInt8)
  dead : Bool

structure Jn.Ok (J : Jn) : Prop where
  d : J.d.Ok
  gen : J.gen ≤ 1099511627776
  k : J.k ≤ 1000000
  next : J.next ≤ J.fin
  fin : J.fin ≤ J.d.n
  L : ∀ p ∈ J.L, p.1 < J.d.n ∧ p.2.length = 64
  l : J.L.length ≤ 100000

def Jn.died (J : Jn) (d : Dv) : Jn := { J with d := d, L := [], dead := true }
def Jn.form0 (J : Jn) (t : List UInt8) : List (Nat × List UInt8) := chunks (formX 0 J.gen J.k t) J.next (manyOf J.gen J.k t)
def Jn.more (J : Jn) (t : List UInt8) (d : Dv) : Jn :=
  { J with d := d, k := J.k + 1, next := J.next + manyOf J.gen J.k t, L := J.L ++ [(J.next, sec (formX 1 J.gen J.k t) 0)] }
def Jn.add (J : Jn) (t : List UInt8) : Nat × Jn :=
  if J.dead = true then (16, J)
  else if formE J.gen J.k t ≠ 0 then (formE J.gen J.k t, J)
  else if J.fin - J.next < manyOf J.gen J.k t then (6, J)
  else if (J.d.puts (J.form0 t)).1 = 0 then (0, J.more t (J.d.puts (J.form0 t)).2)
  else ((J.d.puts (J.form0 t)).1, J.died (J.d.puts (J.form0 t)).2)
def Jn.flush (J : Jn) : Nat × Jn :=
  if J.dead = true then (16, J)
  else if J.d.flushE ≠ 0 then (J.d.flushE, J.died J.d.flush)
  else if J.L = [] then (0, { J with d := J.d.flush })
  else if (J.d.flush.puts J.L).1 ≠ 0 then ((J.d.flush.puts J.L).1, J.died (J.d.flush.puts J.L).2)
  else if (J.d.flush.puts J.L).2.flushE ≠ 0 then ((J.d.flush.puts J.L).2.flushE, J.died (J.d.flush.puts J.L).2.flush)
  else (0, { J with d := (J.d.flush.puts J.L).2.flush, L := [] })

/-- the first sectors of forms in a row -/
def firsts (gen : Nat) : Nat → Nat → List (List UInt8) → List (Nat × List UInt8)
  | _, _, [] => []
  | k, o, t :: r => (o, sec (formX 1 gen k t) 0) :: firsts gen (k + 1) (o + manyOf gen k t) r
theorem firsts_snoc (gen : Nat) (t : List UInt8) : ∀ (k o : Nat) (ts : List (List UInt8)), firsts gen k o (ts ++ [t]) = firsts gen k o ts ++ [(o + secsUp gen k ts, sec (formX 1 gen (k + ts.length) t) 0)]
  | k, o, [] => by simp [firsts, secsUp]
  | k, o, u :: r => by
    simp only [List.cons_append, firsts, firsts_snoc gen t (k + 1) _ r, List.length_cons, secsUp]
    rw [show k + 1 + r.length = k + (r.length + 1) by omega, show o + manyOf gen k u + secsUp gen (k + 1) r = o + (manyOf gen k u + secsUp gen (k + 1) r) by omega]
theorem firsts_length (gen : Nat) : ∀ (k o : Nat) (ts : List (List UInt8)), (firsts gen k o ts).length = ts.length
  | _, _, [] => rfl
  | k, o, t :: r => by simp [firsts, firsts_length gen (k + 1) _ r]
theorem firsts_in (gen : Nat) : ∀ (k o : Nat) (ts : List (List UInt8)), ∀ p ∈ firsts gen k o ts, p.1 < o + secsUp gen k ts ∧ p.2.length = 64
  | _, _, [], _, hp => by cases hp
  | k, o, t :: r, p, hp => by
    have h1 := secs_pos (restB gen k t).length
    have h2 := secsUp_ge gen k (t :: r)
    simp only [firsts, List.mem_cons] at hp
    rcases hp with rfl | hp
    · refine ⟨by simp only [secsUp, manyOf]; omega, ?_⟩
      exact sec_length (n := manyOf gen k t) (by rw [form_length]; omega) h1
    · have := firsts_in gen (k + 1) _ r p hp
      refine ⟨?_, this.2⟩
      simp only [secsUp]
      omega
/-- the first sectors put again: the forms are whole -/
theorem puts_firsts (gen : Nat) (c : List UInt8) : ∀ (ts : List (List UInt8)) (k o : Nat) (A : List UInt8), A.length = 64 * o →
    (firsts gen k o ts).foldl (fun S p => put S (64 * p.1) p.2) (A ++ (formsX 0 gen k ts ++ c)) = A ++ (formsX 1 gen k ts ++ c)
  | [], _, _, _, _ => rfl
  | t :: r, k, o, A, hA => by
    obtain ⟨q, h1, h2, s, h3⟩ := form_cut 1 gen k t
    have e : put (A ++ (formsX 0 gen k (t :: r) ++ c)) (64 * o) (sec (formX 1 gen k t) 0) = (A ++ formX 1 gen k t) ++ (formsX 0 gen (k + 1) r ++ c) := by
      have := put_over (a := A) (f := 1 :: q) (f' := 0 :: q) (c := s ++ formsX 0 gen (k + 1) r ++ c) rfl
      rw [h1, ← hA]
      simp only [formsX, h3, List.cons_append, List.append_assoc] at this ⊢
      exact this
    simp only [firsts, List.foldl_cons]
    rw [e, puts_firsts gen c r (k + 1) _ _ (by rw [List.length_append, hA, form_length]; omega)]
    simp only [formsX, List.append_assoc]

/-- a journal of all of a new device, to which these records were added -/
structure Run (J : Jn) (n gen : Nat) (ts : List (List UInt8)) : Prop where
  ok : J.Ok
  up : J.d.Up
  dn : J.d.n = n
  jgen : J.gen = gen
  jk : J.k = ts.length
  next : J.next = secsUp gen 0 ts
  fin : J.fin = n
  jL : J.L = firsts gen 0 0 ts
  live : J.dead = false
  forms : ∀ (i : Nat) t, ts[i]? = some t → formE gen (i : Int) t = 0
  view : J.d.view = formsX 0 gen 0 ts ++ List.replicate (64 * (n - J.next)) 0
  few : J.d.L.length ≤ J.next
def Jn.first (n gen : Nat) : Jn := { d := Dv.new n, gen := gen, k := 0, next := 0, fin := n, L := [], dead := false }
theorem Run.new {n gen : Nat} (hn : n ≤ 4096) (hg : gen ≤ 1099511627776) : Run (Jn.first n gen) n gen [] :=
  ⟨⟨Dv.Ok.new hn, hg, Nat.zero_le _, Nat.zero_le _, Nat.le_refl _, fun p hp => (by cases hp), Nat.zero_le _⟩, ⟨by show (-1 : Int) < 0; omega, rfl⟩, rfl, rfl, rfl, rfl, rfl, rfl, rfl, fun i t h => by simp at h, by
    show List.replicate (n * 64) 0 = [] ++ List.replicate (64 * (n - 0)) 0
    rw [List.nil_append, Nat.sub_zero, Nat.mul_comm], Nat.zero_le _⟩
theorem Run.add {J : Jn} {n gen : Nat} {ts : List (List UInt8)} (h : Run J n gen ts) {t : List UInt8} (hf : formE gen ts.length t = 0) (hr : manyOf gen ts.length t ≤ n - J.next) (hts : ts.length < 100000) :
    ∃ J', J.add t = (0, J') ∧ Run J' n gen (ts ++ [t]) ∧ J'.next = J.next + manyOf gen ts.length t := by
  have hm := formE_nat hf
  have hfl := form_length 0 gen ts.length t
  have hnx : J.next + manyOf gen ts.length t ≤ n := by have := h.ok.next; have := h.fin; omega
  have hin : ∀ p ∈ J.form0 t, p.1 < J.d.n ∧ p.2.length = 64 := by
    unfold Jn.form0
    rw [h.jgen, h.jk, h.dn]
    exact chunks_in (by rw [hfl]; omega) hnx
  have hp := up_puts h.up hin
  have hcl : (J.form0 t).length = manyOf gen ts.length t := by unfold Jn.form0; rw [h.jgen, h.jk]; simp [chunks]
  refine ⟨J.more t { J.d with L := J.d.L ++ J.form0 t }, ?_, ?_, by show J.next + manyOf J.gen J.k t = _; rw [h.jgen, h.jk]⟩
  · unfold Jn.add
    rw [if_neg (by rw [h.live]; simp), h.jgen, h.jk, if_neg (by omega), h.fin, if_neg (by omega), hp, if_pos rfl]
  · have hsn := secsUp_snoc gen t 0 ts
    rw [Nat.zero_add] at hsn
    have hok2 : ({ J.d with L := J.d.L ++ J.form0 t } : Dv).Ok := by
      have := puts_ok (J.form0 t) h.ok.d
      rwa [hp] at this
    have hnext : (J.more t { J.d with L := J.d.L ++ J.form0 t }).next = secsUp gen 0 (ts ++ [t]) := by
      show J.next + manyOf J.gen J.k t = _
      rw [hsn, h.jgen, h.jk, h.next]
    have hLin : ∀ p ∈ (J.more t { J.d with L := J.d.L ++ J.form0 t }).L, p.1 < n ∧ p.2.length = 64 := by
      intro p hp
      simp only [Jn.more, List.mem_append, List.mem_singleton] at hp
      rcases hp with hp | rfl
      · have := h.ok.L p hp; rw [h.dn] at this; exact this
      · have := secs_pos (restB gen ts.length t).length
        refine ⟨by show J.next < n; unfold manyOf at hnx; omega, ?_⟩
        rw [h.jgen, h.jk]
        exact sec_length (n := manyOf gen ts.length t) (by rw [form_length]; omega) this
    refine ⟨⟨hok2, h.ok.gen, ?_, ?_, h.ok.fin, fun p hp => by show p.1 < J.d.n ∧ _; rw [h.dn]; exact hLin p hp, ?_⟩, h.up, h.dn, h.jgen, ?_, hnext, h.fin, ?_, h.live, ?_, ?_, ?_⟩
    · show J.k + 1 ≤ _; rw [h.jk]; omega
    · show J.next + manyOf J.gen J.k t ≤ J.fin
      rw [h.jgen, h.jk, h.fin]; exact hnx
    · show (J.L ++ [_]).length ≤ _
      rw [List.length_append, h.jL, firsts_length]; simp; omega
    · show J.k + 1 = _; rw [h.jk]; simp
    · show J.L ++ [_] = _
      rw [firsts_snoc, h.jL, h.jgen, h.jk, h.next, Nat.zero_add, Nat.zero_add]
    · intro i u hu
      rw [List.getElem?_append] at hu
      split at hu
      · exact h.forms i u hu
      · rename_i hi
        have e : i = ts.length := by
          have := (List.getElem?_eq_some_iff.1 hu).1
          simp at this; omega
        subst e
        simp at hu
        subst hu
        exact hf
    · show ({ J.d with L := J.d.L ++ J.form0 t } : Dv).view = _
      have hal := formsX_length 0 gen 0 ts
      have hvl := view_length h.ok.d
      rw [view_more _ _ (fun p hp => (hin p hp).2), hnext, hsn]
      have e := puts_chunks (f := formX 0 gen ts.length t) (m := manyOf gen ts.length t) (by rw [hfl]; omega) (S := J.d.view) (o := J.next) _ (Nat.le_refl _) (by rw [hvl, h.dn]; omega)
      have e2 : J.form0 t = chunks (formX 0 gen ts.length t) J.next (manyOf gen ts.length t) := by unfold Jn.form0; rw [h.jgen, h.jk]
      rw [e2, e, ← hfl, List.take_length, h.view, formsX_snoc, Nat.zero_add, h.next, ← hal, put_zeros (by rw [hfl]; have := h.next; omega), hfl]
      congr 2
      omega
    · show (J.d.L ++ J.form0 t).length ≤ J.next + manyOf J.gen J.k t
      rw [List.length_append, hcl, h.jgen, h.jk]
      have := h.few
      omega
theorem Run.full {J : Jn} {n gen : Nat} {ts : List (List UInt8)} (h : Run J n gen ts) {t : List UInt8} (hf : formE gen ts.length t = 0) (hr : ¬ manyOf gen ts.length t ≤ n - J.next) : J.add t = (6, J) := by
  unfold Jn.add
  rw [if_neg (by rw [h.live]; simp), h.jgen, h.jk, if_neg (by omega), h.fin, if_pos (by omega)]
theorem Run.flush {J : Jn} {n gen : Nat} {ts : List (List UInt8)} (h : Run J n gen ts) :
    ∃ J', J.flush = (0, J') ∧ J'.Ok ∧ J'.d.Up ∧ J'.d.n = n ∧ J'.d.L = [] ∧ J'.next = J.next ∧ J'.fin = n ∧ J'.d.view = formsX 1 gen 0 ts ++ List.replicate (64 * (n - J.next)) 0 := by
  obtain ⟨f1, f2⟩ := up_flush h.up
  have hview : ∀ d : Dv, ({ d with S := d.view, L := [] } : Dv).view = d.view := fun _ => rfl
  have hup : J.d.flush.Up := by rw [f2]; exact h.up
  have hn : J.d.flush.n = n := by rw [f2]; exact h.dn
  have hok := h.ok.d.flush
  by_cases hL : J.L = []
  · have hts : ts = [] := by
      have := firsts_length gen 0 0 ts
      rw [← h.jL, hL] at this
      exact List.eq_nil_of_length_eq_zero this.symm
    refine ⟨{ J with d := J.d.flush }, ?_, ⟨hok, h.ok.gen, h.ok.k, h.ok.next, by show J.fin ≤ J.d.flush.n; rw [hn, h.fin]; exact Nat.le_refl _, fun p hp => (by rw [show ({ J with d := J.d.flush } : Jn).L = J.L from rfl, hL] at hp; cases hp), h.ok.l⟩, hup, hn, by show J.d.flush.L = _; rw [f2], rfl, h.fin, ?_⟩
    · unfold Jn.flush
      rw [if_neg (by rw [h.live]; simp), if_neg (by rw [f1]; simp), if_pos hL]
    · show J.d.flush.view = _
      rw [f2, hview, h.view, hts]
      rfl
  · have hin : ∀ p ∈ J.L, p.1 < J.d.flush.n ∧ p.2.length = 64 := by rw [hn, ← h.dn]; exact h.ok.L
    have hp := up_puts hup hin
    have hup2 : ({ J.d.flush with L := J.d.flush.L ++ J.L } : Dv).Up := hup
    obtain ⟨g1, g2⟩ := up_flush hup2
    have hok2 := puts_ok J.L hok
    refine ⟨{ J with d := (J.d.flush.puts J.L).2.flush, L := [] }, ?_, ⟨hok2.flush, h.ok.gen, h.ok.k, h.ok.next, ?_, fun p hp => (by cases hp), Nat.zero_le _⟩, ?_, ?_, ?_, rfl, h.fin, ?_⟩
    · unfold Jn.flush
      rw [if_neg (by rw [h.live]; simp), if_neg (by rw [f1]; simp), if_neg hL, if_neg (by rw [hp]; simp), if_neg (by rw [hp, g1]; simp)]
    · show J.fin ≤ (J.d.flush.puts J.L).2.flush.n
      rw [hp, g2, h.fin]
      exact Nat.le_of_eq hn.symm
    · show (J.d.flush.puts J.L).2.flush.Up
      rw [hp, g2]
      exact hup
    · show (J.d.flush.puts J.L).2.flush.n = n
      rw [hp, g2]
      exact hn
    · show (J.d.flush.puts J.L).2.flush.L = []
      rw [hp, g2]
    · show (J.d.flush.puts J.L).2.flush.view = _
      rw [hp, g2, hview, view_more _ _ (fun p hp => (hin p hp).2), f2, hview, h.view, h.jL]
      have := puts_firsts gen (List.replicate (64 * (n - J.next)) 0) ts 0 0 [] rfl
      simpa using this
end Go.Proofs.YtdlgihgdpdiglaaGreat
end

section
namespace Go.Proofs.YtdlgihgdpdiglaaGreat
open Go.ChangeShapes Go.WideShapes Go.ChangeAt Go.RowKit
set_option linter.unusedVariables false

theorem counts_any (n : Int) (w : World) (h1 : -9223372036854775808 ≤ n) (h2 : n ≤ 9223372036854775807) :
    Calls Tryz.prog 123 #[.int .i64 n] w fun e w' => e = .returned (.bool (decide (0 ≤ n ∧ n ≤ 1099511627776))) ∧ w = w' := by
  by_cases h0 : 0 ≤ n
  · by_cases h3 : n ≤ 1099511627776
    · rw [decide_eq_true ⟨h0, h3⟩]
      go_enter Tryz.func123, Tryz.ntmps123
      go_wp2
      go_ret
      exact ⟨rfl, rfl⟩
    · rw [decide_eq_false (by omega)]
      go_enter Tryz.func123, Tryz.ntmps123
      go_wp2
      go_ret
      exact ⟨rfl, rfl⟩
  · rw [decide_eq_false (by omega)]
    go_enter Tryz.func123, Tryz.ntmps123
    go_wp2
    go_ret
    exact ⟨rfl, rfl⟩

theorem sectorsOf_any (r : Nat) (w : World) (h : r ≤ 2000000) :
    Calls Tryz.prog 185 #[.int .i64 (r : Int)] w fun e w' => e = .returned (.int .i64 (secsOf r : Int)) ∧ w = w' := by
  have e : (secsOf r : Int) = (3 + (r : Int) + 64 - 1) / 64 := by unfold secsOf; omega
  have E := Lib.hid e; clear e
  go_enter Tryz.func185, Tryz.ntmps185
  go_wp2
  go_ret
  exact ⟨by rw [E.out]; rfl, rfl⟩

theorem or_256 (x y : Nat) (hx : x < 256) (hy : y < 256) : bits .or .i64 (x : Int) ((y : Int) * 256) = ((x + 256 * y : Nat) : Int) := by
  rw [show (y : Int) * 256 = ((2 ^ 8 * y : Nat) : Int) by omega, or_i64_nat _ _ (by omega) (by omega), Nat.or_comm]
  congr 1
  rw [← Nat.two_pow_add_eq_or_of_lt (by omega)]
  omega
set_option maxRecDepth 100000 in
theorem restOf_any (A : Option Addr) (n c : Nat) (bs : List UInt8) (w : World) (hn : bs.length = n) (h3 : 3 ≤ n) (h : Seen w A (bytesV bs)) :
    Calls Tryz.prog 186 #[.slice A n c] w fun e w' => e = .returned (.int .i64 (restN bs : Int)) ∧ Below w.heap.size w w' := by
  obtain ⟨g, o, x, rfl, hx, _, hc1⟩ := h.byteAt (j := 1) (by omega)
  obtain ⟨g', o', y, he, hy, _, hc2⟩ := h.byteAt (j := 2) (by omega)
  injection he with he
  injection he with e1 e2
  subst e1; subst e2
  have hxl := UInt8.toNat_lt x
  have hyl := UInt8.toNat_lt y
  have hr : restN bs = x.toNat + 256 * y.toNat := by unfold restN; rw [List.getD_eq_getElem?_getD, List.getD_eq_getElem?_getD, hx, hy]; rfl
  obtain ⟨a, ha⟩ : ∃ a, x.toNat = a := ⟨_, rfl⟩
  obtain ⟨b, hb⟩ : ∃ b, y.toNat = b := ⟨_, rfl⟩
  rw [ha] at hc1 hxl hr
  rw [hb] at hc2 hyl hr
  have e1 := or_256 a b hxl hyl
  rw [← hr] at e1
  have n1 : (1 : Int) < (n : Int) := by omega
  have n2 : (2 : Int) < (n : Int) := by omega
  clear h hx hy ha hb hr hn
  go_enter Tryz.func186, Tryz.ntmps186
  go_wp2
  go_quiet (fail)
  go_wp2
  go_ret
  exact ⟨rfl, below_drewN (Below.refl _ _) _⟩

theorem sizeOf_any (A : Option Addr) (n c : Nat) (bs : List UInt8) (w : World) (hn : bs.length = n) (h3 : 3 ≤ n) (h : Seen w A (bytesV bs)) :
    Calls Tryz.prog 125 #[.slice A n c] w fun e w' => e = .returned (.int .i64 (secsOf (restN bs) : Int)) ∧ Below w.heap.size w w' := by
  have hb : restN bs ≤ 65535 := by
    have := UInt8.toNat_lt (bs.getD 1 0); have := UInt8.toNat_lt (bs.getD 2 0)
    unfold restN; omega
  have H := Lib.hid h; clear h
  go_enter Tryz.func125, Tryz.ntmps125
  go_wp2_with (first | (go_at_call 186; refine (restOf_any A n c bs w hn h3 H.out).mono ?_; rintro e w1 ⟨rfl, hb1⟩; have Hb1 := Lib.hid hb1; clear hb1) | (go_at_call 185; refine (sectorsOf_any (restN bs) w1 (by omega)).mono ?_; rintro e w2 ⟨rfl, rfl⟩))
  go_ret
  exact ⟨rfl, Hb1.out⟩

theorem Len_any (B g s : Nat) (r : Option Nat) (d : Dv) (w : World) (h : IsD w B g s r d) :
    Calls Tryz.prog 27 #[.pointer (some ⟨g, 0, none⟩)] w fun e w' => e = .returned (.int .i64 (d.n : Int)) ∧ w = w' := by
  obtain ⟨hok, hBg, hBs, hgs, hrg, hrs, hS, A, c, hh, hown, hr⟩ := h
  have c0 : w.cell? ⟨g, 0, none⟩ = some (.slice (some ⟨s, 0, none⟩) d.n d.n) := row_cell hh 0
  clear hS hown hr hh hok
  go_enter Tryz.func27, Tryz.ntmps27
  go_wp2
  go_ret
  exact ⟨rfl, rfl⟩
theorem Down_any (B g s : Nat) (r : Option Nat) (d : Dv) (w : World) (h : IsD w B g s r d) :
    Calls Tryz.prog 124 #[.pointer (some ⟨g, 0, none⟩)] w fun e w' => e = .returned (.bool d.down) ∧ w = w' := by
  obtain ⟨hok, hBg, hBs, hgs, hrg, hrs, hS, A, c, hh, hown, hr⟩ := h
  have c3 : w.cell? ⟨g, 3, none⟩ = some (.bool d.down) := row_cell hh 3
  clear hS hown hr hh hok
  go_enter Tryz.func124, Tryz.ntmps124
  go_wp2
  go_ret
  exact ⟨rfl, rfl⟩

/-- is the part within the device -/
def withinB (n : Nat) (from_ many : Int) : Bool := decide (0 ≤ from_ ∧ 0 ≤ many ∧ from_ + many ≤ n)
theorem within_any (B g s : Nat) (r : Option Nat) (d : Dv) (a m : Int) (w : World) (h : IsD w B g s r d) (a1 : -9223372036854775808 ≤ a) (a2 : a ≤ 9223372036854775807) (m1 : -9223372036854775808 ≤ m) (m2 : m ≤ 9223372036854775807) :
    Calls Tryz.prog 122 #[.pointer (some ⟨g, 0, none⟩), .int .i64 a, .int .i64 m] w fun e w' => e = .returned (.bool (withinB d.n a m)) ∧ w = w' := by
  have hn := h.1.n
  have H := Lib.hid h; clear h
  by_cases h0 : 0 ≤ a
  · by_cases h1 : 0 ≤ m
    · by_cases h2 : a ≤ d.n
      · by_cases h3 : m ≤ d.n - a
        · have e : withinB d.n a m = true := decide_eq_true (by omega)
          rw [e]; clear e
          go_enter Tryz.func122, Tryz.ntmps122
          go_wp2_with (go_at_call 27; refine (Len_any B g s r d w H.out).mono ?_; rintro e w1 ⟨rfl, rfl⟩)
          go_ret
          exact ⟨rfl, rfl⟩
        · have e : withinB d.n a m = false := decide_eq_false (by omega)
          have hd : decide (m ≤ (d.n : Int) - a) = false := decide_eq_false h3
          rw [e]; clear e
          go_enter Tryz.func122, Tryz.ntmps122
          go_wp2_with (go_at_call 27; refine (Len_any B g s r d w H.out).mono ?_; rintro e w1 ⟨rfl, rfl⟩)
          go_ret
          exact ⟨rfl, rfl⟩
      · have e : withinB d.n a m = false := decide_eq_false (by omega)
        rw [e]; clear e
        go_enter Tryz.func122, Tryz.ntmps122
        go_wp2_with (go_at_call 27; refine (Len_any B g s r d w H.out).mono ?_; rintro e w1 ⟨rfl, rfl⟩)
        go_ret
        exact ⟨rfl, rfl⟩
    · have e : withinB d.n a m = false := decide_eq_false (by omega)
      rw [e]; clear e
      go_enter Tryz.func122, Tryz.ntmps122
      go_wp2
      go_ret
      exact ⟨rfl, rfl⟩
  · have e : withinB d.n a m = false := decide_eq_false (by omega)
    rw [e]; clear e
    go_enter Tryz.func122, Tryz.ntmps122
    go_wp2
    go_ret
    exact ⟨rfl, rfl⟩
end Go.Proofs.YtdlgihgdpdiglaaGreat
end

section
namespace Go.Proofs.YtdlgihgdpdiglaaGreat
open Go.ChangeShapes Go.WideShapes Go.ChangeAt Go.RowKit
set_option linter.unusedVariables false

/-- what Form hands back -/
def FormRet (gen n : Int) (t : List UInt8) (w : World) (en : Ending) (w' : World) : Prop :=
  Below w.heap.size w w' ∧
  ((formE gen n t ≠ 0 ∧ en = .returned (.tuple #[.slice none 0 0, .int .i64 (formE gen n t : Int)])) ∨
   (formE gen n t = 0 ∧ ∃ b, en = .returned (.tuple #[.slice (some ⟨b, 0, none⟩) (64 * manyOf gen.toNat n.toNat t) (64 * manyOf gen.toNat n.toNat t), .int .i64 0]) ∧ w.heap.size ≤ b ∧
     w'.heap[b]? = some (.cells (bytesV (formX 1 gen.toNat n.toNat t)).toArray 5 (0, 0))))

set_option maxRecDepth 100000 in
theorem Form_range (gen n : Int) (A : Option Addr) (m c : Nat) (t : List UInt8) (w : World) (g1 : -9223372036854775808 ≤ gen) (g2 : gen ≤ 9223372036854775807) (n1 : -9223372036854775808 ≤ n) (n2 : n ≤ 9223372036854775807)
    (h : gen < 0 ∨ 1099511627776 < gen ∨ n < 0 ∨ 1099511627776 < n) :
    Calls Tryz.prog 132 #[.int .i64 gen, .int .i64 n, .slice A m c] w (FormRet gen n t w) := by
  have e : formE gen n t = 5 := if_pos h
  have E := Lib.hid e; clear e
  by_cases hg : 0 ≤ gen ∧ gen ≤ 1099511627776
  · have hn : ¬ (0 ≤ n ∧ n ≤ 1099511627776) := by omega
    have d1 := decide_eq_true hg
    have d2 := decide_eq_false hn
    have D1 := Lib.hid d1; have D2 := Lib.hid d2
    clear d1 d2 hg hn h
    go_enter Tryz.func132, Tryz.ntmps132
    go_wp2_with fail
    refine (counts_any gen w g1 g2).mono ?_
    rw [D1.out]
    rintro e w1 ⟨rfl, rfl⟩
    go_wp2_with fail
    refine (counts_any n w n1 n2).mono ?_
    rw [D2.out]
    rintro e w1 ⟨rfl, rfl⟩
    go_wp2
    go_ret2
    exact ⟨Below.refl _ _, .inl ⟨by rw [E.out]; simp, by rw [E.out]; rfl⟩⟩
  · have d1 := decide_eq_false hg
    have D1 := Lib.hid d1
    clear d1 hg h
    go_enter Tryz.func132, Tryz.ntmps132
    go_wp2_with fail
    refine (counts_any gen w g1 g2).mono ?_
    rw [D1.out]
    rintro e w1 ⟨rfl, rfl⟩
    go_wp2
    go_ret2
    exact ⟨Below.refl _ _, .inl ⟨by rw [E.out]; simp, by rw [E.out]; rfl⟩⟩
theorem in_range {gen n : Int} (h : ¬ (gen < 0 ∨ 1099511627776 < gen ∨ n < 0 ∨ 1099511627776 < n)) : decide (0 ≤ gen ∧ gen ≤ 1099511627776) = true ∧ decide (0 ≤ n ∧ n ≤ 1099511627776) = true :=
  ⟨decide_eq_true (by omega), decide_eq_true (by omega)⟩
set_option maxRecDepth 100000 in
theorem Form_long (gen n : Nat) (A : Option Addr) (m c : Nat) (t : List UInt8) (w : World) (hg : gen ≤ 1099511627776) (hn : n ≤ 1099511627776) (hm : t.length = m) (h : 1024 < m) :
    Calls Tryz.prog 132 #[.int .i64 (gen : Int), .int .i64 (n : Int), .slice A m c] w (FormRet gen n t w) := by
  have e : formE gen n t = 15 := by
    unfold formE
    rw [if_neg (by omega), if_pos]
    simp only [Int.toNat_natCast]
    rcases Nat.lt_or_ge 16 (manyOf gen n t) with h1 | h1
    · exact h1
    · have := text_small h1; omega
  have E := Lib.hid e; clear e
  obtain ⟨d1, d2⟩ := in_range (gen := gen) (n := n) (by omega)
  have D1 := Lib.hid d1; have D2 := Lib.hid d2
  clear d1 d2 hm
  have hml : (1024 : Int) < (m : Int) := by omega
  go_enter Tryz.func132, Tryz.ntmps132
  go_wp2_with fail
  refine (counts_any gen w (by omega) (by omega)).mono ?_
  rw [D1.out]
  rintro e w1 ⟨rfl, rfl⟩
  go_wp2_with fail
  refine (counts_any n w (by omega) (by omega)).mono ?_
  rw [D2.out]
  rintro e w1 ⟨rfl, rfl⟩
  go_wp2
  go_ret2
  exact ⟨Below.refl _ _, .inl ⟨by rw [E.out]; simp, by rw [E.out]; rfl⟩⟩

/-- the form's block, written cell by cell -/
theorem form_blk {w1 : World} {b N l : Nat} (hN : 3 ≤ N) (hl : l < 65536) (h : w1.heap[b]? = some (.cells (bytesV (List.replicate N 0)).toArray 5 (0, 0))) :
    (((w1.setCell ⟨b, 0, none⟩ (.int .u8 1)).setCell ⟨b, 1, none⟩ (.int .u8 ((l : Int) % 256))).setCell ⟨b, 2, none⟩ (.int .u8 ((l : Int) / 256))).heap[b]? =
      some (.cells (bytesV (headOf 1 l ++ List.replicate (N - 3) 0)).toArray 5 (0, 0)) := by
  rw [row_set (row_set (row_set h _ _) _ _)]
  obtain ⟨k, rfl⟩ : ∃ k, N = k + 3 := ⟨N - 3, by omega⟩
  have e1 : byteV (UInt8.ofNat l) = .int .u8 ((l : Int) % 256) := by simp [byteV]
  have e2 : byteV (UInt8.ofNat (l / 256)) = .int .u8 ((l : Int) / 256) := by simp [byteV]; omega
  rw [← e1, ← e2, show (.int .u8 1 : Value) = byteV 1 from rfl]
  simp [bytesV, headOf, List.replicate_succ]

/-- the rest put behind the head -/
theorem put_head {x : UInt8} {l N : Nat} {r : List UInt8} (h : 3 + r.length ≤ N) : put (headOf x l ++ List.replicate (N - 3) 0) 3 r = headOf x l ++ (r ++ List.replicate (N - (3 + r.length)) 0) := by
  have := put_zeros (a := headOf x l) (f := r) (m := N - 3) (by omega)
  rw [show (headOf x l).length = 3 from rfl] at this
  rw [this, List.append_assoc, Nat.sub_sub]
theorem below_three {w w7 : World} {b : Nat} (h : Below b w w7) (u v x : Value) : Below b w (((w7.setCell ⟨b, 0, none⟩ u).setCell ⟨b, 1, none⟩ v).setCell ⟨b, 2, none⟩ x) := by
  refine ⟨h.os, h.tape, h.output, by simpa [World.setCell] using h.size, fun k hk => ?_⟩
  rw [Below.heap_setCell _ _ _ _ (by show k ≠ b; omega), Below.heap_setCell _ _ _ _ (by show k ≠ b; omega), Below.heap_setCell _ _ _ _ (by show k ≠ b; omega)]
  exact h.block k hk
/-- the first three cells, as they are met -/
theorem form_three {w1 : World} {b N : Nat} (hN : 3 ≤ N) (h : w1.heap[b]? = some (.cells (bytesV (List.replicate N 0)).toArray 5 (0, 0))) :
    (w1.frozen? ⟨b, 0, none⟩ = false ∧ w1.cell? ⟨b, 0, none⟩ = some (.int .u8 0)) ∧ (∀ u, (w1.setCell ⟨b, 0, none⟩ u).frozen? ⟨b, 1, none⟩ = false ∧ (w1.setCell ⟨b, 0, none⟩ u).cell? ⟨b, 1, none⟩ = some (.int .u8 0)) ∧
    (∀ u v, ((w1.setCell ⟨b, 0, none⟩ u).setCell ⟨b, 1, none⟩ v).frozen? ⟨b, 2, none⟩ = false ∧ ((w1.setCell ⟨b, 0, none⟩ u).setCell ⟨b, 1, none⟩ v).cell? ⟨b, 2, none⟩ = some (.int .u8 0)) := by
  obtain ⟨k, rfl⟩ : ∃ k, N = k + 3 := ⟨N - 3, by omega⟩
  have hc : ∀ j, j < 3 → w1.cell? ⟨b, j, none⟩ = some (.int .u8 0) := fun j hj => by
    rw [row_cell h j, bytesV, List.map_replicate, List.getElem?_toArray, List.getElem?_replicate, if_pos (by omega)]
    rfl
  refine ⟨⟨row_frozen h 0, hc 0 (by omega)⟩, fun u => ⟨by rw [World.frozen?_setCell]; exact row_frozen h 1, ?_⟩, fun u v => ⟨by rw [World.frozen?_setCell, World.frozen?_setCell]; exact row_frozen h 2, ?_⟩⟩
  · rw [World.cell?_setCell_other _ _ _ _ (by simp)]; exact hc 1 (by omega)
  · rw [World.cell?_setCell_other _ _ _ _ (by simp), World.cell?_setCell_other _ _ _ _ (by simp)]; exact hc 2 (by omega)

set_option maxRecDepth 100000 in
set_option maxHeartbeats 4000000 in
theorem Form_in (gen n : Nat) (A : Option Addr) (m c : Nat) (t : List UInt8) (w : World) (hg : gen ≤ 1099511627776) (hn : n ≤ 1099511627776) (hm : t.length = m) (h : m ≤ 1024) (hs : Seen w A (bytesV t)) :
    Calls Tryz.prog 132 #[.int .i64 (gen : Int), .int .i64 (n : Int), .slice A m c] w (FormRet gen n t w) := by
  obtain ⟨d1, d2⟩ := in_range (gen := gen) (n := n) (by omega)
  have D1 := Lib.hid d1; have D2 := Lib.hid d2
  clear d1 d2
  obtain ⟨B, hB⟩ : ∃ B, w.heap.size = B := ⟨_, rfl⟩
  have HB := Lib.hid hB
  have Hs := Lib.hid hs; clear hs
  have Hm := Lib.hid hm
  have hnl := numB_len9 (n := n) (by omega)
  have hgl := numB_len9 (n := gen) (by omega)
  have htl := numB_len9 (n := t.length) (by omega)
  have hfl := fields_length gen n t
  have hrl := rest_length gen n t
  have Hl := Lib.hid (And.intro hnl (And.intro hgl (And.intro htl (And.intro hfl hrl))))
  have z0 := IsW.zero w B (by omega)
  rw [hB] at z0
  have Z0 := Lib.hid z0
  have hb0 := Lib.hid ((Below.refl B w).alloc (by omega) (.cells #[.slice none 0 0] 175))
  clear z0 hB hm hnl hgl htl hfl hrl
  have hmle : ¬ (1024 : Int) < (m : Int) := by omega
  go_enter Tryz.func132, Tryz.ntmps132
  go_wp2_with fail
  refine (counts_any gen w (by omega) (by omega)).mono ?_
  rw [D1.out]
  rintro e w1 ⟨rfl, rfl⟩
  go_wp2_with fail
  refine (counts_any n w (by omega) (by omega)).mono ?_
  rw [D2.out]
  rintro e w1 ⟨rfl, rfl⟩
  go_wp2_with fail
  rw [HB.out]
  refine (WNum_any B B none [] gen _ Z0.out (by simp) (by omega) (by omega)).mono ?_
  rintro e w1 ⟨rfl, hg1⟩
  have hb1 := Lib.hid (hb0.out.trans (GrewW.below Z0.out hg1))
  obtain ⟨r1, hw1, _, _⟩ := hg1
  rw [List.nil_append, show ((gen : Int)).toNat = gen from rfl] at hw1
  have Hw1 := Lib.hid hw1
  clear hw1
  go_wp2_with fail
  refine (WNum_any B B r1 (numB gen) n _ Hw1.out (by have := Hl.out; omega) (by omega) (by omega)).mono ?_
  rintro e w2 ⟨rfl, hg2⟩
  have hb2 := Lib.hid (hb1.out.trans (GrewW.below Hw1.out hg2))
  obtain ⟨r2, hw2, _, _⟩ := hg2
  rw [show ((n : Int)).toNat = n from rfl] at hw2
  have Hw2 := Lib.hid hw2
  clear hw2
  go_wp2_with fail
  refine (WText_any B B r2 (numB gen ++ numB n) t A m c w2 Hw2.out (by have := Hl.out; rw [List.length_append]; omega) Hm.out (by omega) (fun w' ht => Hs.out.below (HB.out ▸ hb2.out.trans (ht.below (fun k hk => by
    rcases hk with rfl | hk
    · exact Nat.le_refl _
    · exact (Hw2.out.lt.2 k hk).1) (by have := hb2.out.size; have := HB.out; omega))))).mono ?_
  rintro e w3 ⟨rfl, hg3⟩
  have hb3 := Lib.hid (hb2.out.trans (GrewW.below Hw2.out hg3))
  obtain ⟨r3, hw3, _, _⟩ := hg3
  rw [← Hm.out] at hw3
  have Hw3 := Lib.hid (show IsW w3 B B r3 (fieldsOf gen n t) from hw3)
  clear hw3
  go_wp2_with fail
  refine (WBytes_any B B r3 (fieldsOf gen n t) _ Hw3.out (by have := Hl.out; have := Hm.out; omega)).mono ?_
  rintro e w4 ⟨A4, c4, rfl, hown4, hb4⟩
  have Hb4 := Lib.hid (hb3.out.trans (hb4.mono (by have := hb3.out.size; have := HB.out; omega)))
  have Hs4 := Lib.hid (Seen.of_own hown4)
  clear hown4 hb4
  go_wp2_with fail
  refine (Seal_n A4 _ c4 (fieldsOf gen n t) w4 (bytes_length _).symm Hs4.out (by have := Hl.out; have := Hm.out; rw [bytes_length]; omega)).mono ?_
  rintro e w5 ⟨A5, c5, rfl, hown5, hb5⟩
  have Hb5 := Lib.hid (Hb4.out.trans (hb5.mono (by have := Hb4.out.size; have := HB.out; omega)))
  rw [show sealOf (fieldsOf gen n t) = restB gen n t from rfl] at hown5
  rw [show sealOf (fieldsOf gen n t) = restB gen n t from rfl, bytes_length]
  have Hs5 := Lib.hid (Seen.of_own hown5)
  clear hown5 hb5
  obtain ⟨l, hl⟩ : ∃ l, (restB gen n t).length = l := ⟨_, rfl⟩
  rw [hl]
  have hlb : l ≤ 1100 := by have := Hl.out; have := Hm.out; omega
  have Hll := Lib.hid hl; clear hl
  go_wp2_with fail
  refine (sectorsOf_any l w5 (by omega)).mono ?_
  rintro e w6 ⟨rfl, rfl⟩
  have hmany : manyOf gen n t = secsOf l := by unfold manyOf; rw [Hll.out]
  obtain ⟨q, hq⟩ : ∃ q, secsOf l = q := ⟨_, rfl⟩
  rw [hq] at hmany ⊢
  have hq2 : 3 + l ≤ 64 * q := by rw [← hq]; exact secs_le
  have hq3 : 1 ≤ q := by rw [← hq]; exact secs_pos l
  have Hq := Lib.hid hq; clear hq
  have Hmany := Lib.hid hmany; clear hmany
  have hE : formE gen n t = if 16 < q then 15 else 0 := by
    unfold formE
    rw [if_neg (by omega)]
    simp only [Int.toNat_natCast, Hmany.out]
  by_cases h16 : 16 < q
  · have hE2 : formE gen n t = 15 := by rw [hE, if_pos h16]
    have E := Lib.hid hE2; clear hE hE2
    have h16i : (16 : Int) < (q : Int) := by omega
    go_wp2
    go_ret2
    exact ⟨by rw [HB.out]; exact Hb5.out, .inl ⟨by rw [E.out]; simp, by rw [E.out]; rfl⟩⟩
  · have hE2 : formE gen n t = 0 := by rw [hE, if_neg h16]
    have E := Lib.hid hE2; clear hE hE2
    have h16i : ¬ (16 : Int) < (q : Int) := by omega
    obtain ⟨i0, hi, hz0, hz1, hz2⟩ := info_parts u8_info
    have hc3 : ¬ 64 * q = 3 := by omega
    have hc0 : (0 : Int) < ((64 * q : Nat) : Int) := by omega
    have hc1 : (1 : Int) < ((64 * q : Nat) : Int) := by omega
    have hc2 : (2 : Int) < ((64 * q : Nat) : Int) := by omega
    have hc4 : (3 : Int) ≤ ((64 * q : Nat) : Int) := by omega
    have hrest0 : 0 < l := by have := Hl.out; have := Hll.out; omega
    obtain ⟨g5, o5, hA5, hcs5⟩ : ∃ g5 o5, A5 = some ⟨g5, o5, none⟩ ∧ ∀ (j : Nat) v, (bytesV (restB gen n t))[j]? = some v → w5.cell? ⟨g5, o5 + j, none⟩ = some v := by
      rcases Hs5.out with e | h
      · have := congrArg List.length e
        rw [bytes_length, Hll.out] at this
        simp at this
        omega
      · exact h
    subst hA5
    have Hc5 := Lib.hid hcs5; clear hcs5
    go_wp2_with (first
      | (at_make; go_loud (refine wpList_make_full _ rfl (.tmp 39) (.tmp 39) _ rfl w5.heap.size 5 i0 (.int .u8 0) 1 Tryz.underlying39 hi hz0 hz1 .i64 .i64 _ _ (64 * q) rfl rfl (by omega) (by omega) (by rw [hz2]; omega) (by unfold maxLen; omega) (Nat.le_refl _) ?_; intro w7 hown hgr; rw [made_u8] at hown; have hblk := made_blk hown (by rw [bytes_length, List.length_replicate, Nat.mul_one]); obtain ⟨⟨f0, c0⟩, fc1, fc2⟩ := form_three (by omega) hblk; have f1 := fun u => (fc1 u).1; have c1 := fun u => (fc1 u).2; have f2 := fun u v => (fc2 u v).1; have c2 := fun u v => (fc2 u v).2; have Hblk := Lib.hid (form_blk (l := l) (by omega) (by omega) hblk); have Hgr := Lib.hid (fun u v x => below_three (Below.grown (Below.refl w5.heap.size w5) hgr (Nat.le_refl _) (fun k e => by cases e)) u v x); clear hown hgr hblk fc1 fc2))
      | (refine wpList_copy_at rfl (.tmp 55) (.tmp 56) _ _ rfl 5 Tryz.underlying39 u8_size _ _ _ _ _ _ rfl rfl w5.heap.size 3 _ _ Hblk.out (bytesV (restB gen n t)) (by rw [bytes_length, Hll.out]; exact (Nat.min_eq_left (by omega)).symm) (fun _ => ⟨rfl, _, rfl, fun j v hv => by rw [Addr.add_lit]; have h1 := Hc5.out j v hv; rw [(Hgr.out _ _ _).cell (block_lt_of_cell h1)]; exact h1⟩) (by rw [bytes_length, bytes_length, Hll.out]; simp [headOf]; omega) (bytes_one _) ?_; intro w9 h9 t9; have H9 := Lib.hid h9; have T9 := Lib.hid t9; clear h9 t9))
    go_ret2
    have hbs : w.heap.size ≤ w5.heap.size := Hb5.out.size
    have e9 := H9.out.out
    rw [splice_put, put_head (by rw [Hll.out]; exact hq2), Hll.out] at e9
    refine ⟨?_, .inr ⟨E.out, w5.heap.size, by rw [Int.toNat_natCast, Int.toNat_natCast, Hmany.out]; rfl, hbs, ?_⟩⟩
    · refine (Hb5.out.mono (Nat.le_of_eq HB.out)).trans ?_
      rw [HB.out]
      exact ((Hgr.out _ _ _).mono (by rw [← HB.out]; exact hbs)).trans (T9.out.below (fun k e => by rw [e, ← HB.out]; exact hbs) (by have := (Hgr.out (.int .u8 1) (.int .u8 ((l : Int) % 256)) (.int .u8 ((l : Int) / 256))).size; have := HB.out; omega))
    · rw [e9, Int.toNat_natCast, Int.toNat_natCast]
      unfold formX
      rw [Hll.out, ← Hq.out]
      rfl

/-- what Form does, in one -/
theorem Form_any (gen n : Int) (A : Option Addr) (m c : Nat) (t : List UInt8) (w : World) (g1 : -9223372036854775808 ≤ gen) (g2 : gen ≤ 9223372036854775807) (n1 : -9223372036854775808 ≤ n) (n2 : n ≤ 9223372036854775807)
    (hm : t.length = m) (hs : Seen w A (bytesV t)) : Calls Tryz.prog 132 #[.int .i64 gen, .int .i64 n, .slice A m c] w (FormRet gen n t w) := by
  by_cases h : gen < 0 ∨ 1099511627776 < gen ∨ n < 0 ∨ 1099511627776 < n
  · exact Form_range gen n A m c t w g1 g2 n1 n2 h
  · obtain ⟨g', rfl⟩ : ∃ g' : Nat, gen = (g' : Int) := ⟨gen.toNat, by omega⟩
    obtain ⟨n', rfl⟩ : ∃ n' : Nat, n = (n' : Int) := ⟨n.toNat, by omega⟩
    by_cases hl : 1024 < m
    · exact Form_long g' n' A m c t w (by omega) (by omega) hm hl
    · exact Form_in g' n' A m c t w (by omega) (by omega) hm (by omega) hs
end Go.Proofs.YtdlgihgdpdiglaaGreat
end

section
namespace Go.Proofs.YtdlgihgdpdiglaaGreat
open Go.ChangeShapes Go.WideShapes Go.ChangeAt Go.RowKit
set_option linter.unusedVariables false

/-- what is read of fields: a number, a number, a text -/
def rd1 (fs : List UInt8) := rdNum fs 0 1099511627776
def rd2 (fs : List UInt8) := rdNum (rd1 fs).2.1 (rd1 fs).2.2 1099511627776
def rd3 (fs : List UInt8) := rdText (rd2 fs).2.1 (rd2 fs).2.2 (fs.length : Int)
theorem rdNum_num {n : Nat} {most : Int} {r : List UInt8} (h : n < 9223372036854775808) (hm : (n : Int) ≤ most) : rdNum (numB n ++ r) 0 most = (n, r, 0) := by
  unfold rdNum
  rw [numR_numB h, if_neg (by simp), if_neg (by simp), if_neg (by simp only; omega)]
  simp
theorem rd_fields {gen n : Nat} {t : List UInt8} (hg : gen ≤ 1099511627776) (hn : n ≤ 1099511627776) (ht : t.length ≤ 1014) : (rd3 (fieldsOf gen n t)).1 = t := by
  have h1 : rd1 (fieldsOf gen n t) = (gen, numB n ++ (numB t.length ++ t), 0) := by
    unfold rd1 fieldsOf
    rw [List.append_assoc, rdNum_num (by omega) (by omega)]
  have h2 : rd2 (fieldsOf gen n t) = (n, numB t.length ++ t, 0) := by
    unfold rd2
    rw [h1, rdNum_num (by omega) (by omega)]
  unfold rd3
  rw [h2]
  unfold rdText
  rw [rdNum_num (by omega) (by have := fields_length gen n t; omega)]
  simp

/-- of the record whose form these bytes are -/
def IsForm (gen k : Nat) (t f : List UInt8) : Prop := formE gen k t = 0 ∧ formX 1 gen k t = f
/-- the rest, as these bytes say -/
def restOfB (f : List UInt8) : List UInt8 := (f.drop 3).take (restN f)
theorem isForm_rest {gen k : Nat} {t f : List UInt8} (h : IsForm gen k t f) : restOfB f = restB gen k t :=
  (form_says (formE_nat h.1).2.2 (by rw [h.2]; exact List.prefix_refl _)).2.2.1
theorem isForm_text {gen k : Nat} {t f : List UInt8} (h : IsForm gen k t f) : (rd3 ((restOfB f).take ((restOfB f).length - 4))).1 = t := by
  obtain ⟨a, b, c⟩ := formE_nat h.1
  have e : (restOfB f).take ((restOfB f).length - 4) = fieldsOf gen k t := by
    rw [isForm_rest h, rest_length, Nat.add_sub_cancel]
    exact List.take_left
  rw [e]
  exact rd_fields a b (text_small c)

/-- what textOf hands back -/
def TxtRet (gen k : Nat) (f : List UInt8) (w : World) (en : Ending) (w' : World) : Prop :=
  Below w.heap.size w w' ∧
  ((∃ t A c, en = .returned (.tuple #[.slice A t.length c, .bool true]) ∧ w'.ownsRow w.heap.size 5 1 (.slice A t.length c) t.length (bytesV t) ∧ IsForm gen k t f) ∨
   (en = .returned (.tuple #[.slice none 0 0, .bool false]) ∧ ∀ t, ¬ IsForm gen k t f))

set_option maxRecDepth 100000 in
set_option maxHeartbeats 4000000 in
theorem textOf_any (gen k : Nat) (A : Option Addr) (n c : Nat) (f : List UInt8) (w : World) (hg : gen ≤ 1099511627776) (hk : k ≤ 1099511627776) (hn : f.length = n) (h64 : 64 ≤ n) (h3 : 3 + restN f ≤ n) (hnc : n ≤ c) (hcm : c ≤ maxLen) (hn6 : n ≤ 100000) (hs : Seen w A (bytesV f)) :
    Calls Tryz.prog 126 #[.slice A n c, .int .i64 (gen : Int), .int .i64 (k : Int)] w (TxtRet gen k f w) := by
  obtain ⟨g, o, hA, _⟩ : ∃ g o, A = some ⟨g, o, none⟩ ∧ ∀ (j : Nat) v, (bytesV f)[j]? = some v → w.cell? ⟨g, o + j, none⟩ = some v := by
    rcases hs with e | h
    · have := congrArg List.length e
      rw [bytes_length, hn] at this
      simp at this
      omega
    · exact h
  subst hA
  obtain ⟨q, hq⟩ : ∃ q, restN f = q := ⟨_, rfl⟩
  rw [hq] at h3
  have hrl : (restOfB f).length = q := by unfold restOfB; rw [List.length_take, List.length_drop, hq]; omega
  have Hs := Lib.hid hs; clear hs
  have Hn := Lib.hid hn; clear hn
  have Hq := Lib.hid hq; clear hq
  have Hrl := Lib.hid hrl; clear hrl
  have q1 : (3 : Int) ≤ 3 + (q : Int) := by omega
  have q2 : 3 + (q : Int) ≤ (c : Int) := by omega
  have q3 : ¬ c = 3 := by omega
  have q4 : 3 + q ≤ c := by omega
  go_enter Tryz.func126, Tryz.ntmps126
  go_wp2_with fail
  refine (restOf_any (some ⟨g, o, none⟩) n c f w Hn.out (by omega) Hs.out).mono ?_
  rintro e w1 ⟨rfl, hb1⟩
  rw [Hq.out]
  have Hb1 := Lib.hid hb1; clear hb1
  have Hs1 := Lib.hid (show Seen w1 (some ⟨g, o + 3, none⟩) (bytesV (restOfB f)) from seen_take _ (seen_drop_n (K := 3) q3 (Hs.out.below Hb1.out) (by rw [Hn.out]; exact hnc)))
  obtain ⟨bq, hbq⟩ : ∃ b, openB (restOfB f) = b := ⟨_, rfl⟩
  have Hbq := Lib.hid hbq; clear hbq
  cases bq with
  | false =>
    have hno : ∀ t, ¬ IsForm gen k t f := fun t h => by
      have := Hbq.out
      rw [isForm_rest h] at this
      unfold restB at this
      rw [openB_seal] at this
      cases this
    have Hno := Lib.hid hno; clear hno
    go_wp2_with fail
    refine (Open_no _ q (c - 3) (restOfB f) w1 Hrl.out (by omega) (by omega) (by omega) Hs1.out Hbq.out).mono ?_
    rintro e w2 ⟨rfl, hb2⟩
    have Hb2 := Lib.hid (Hb1.out.trans (hb2.mono Hb1.out.size)); clear hb2
    go_wp2
    go_ret2
    exact ⟨Hb2.out, .inr ⟨rfl, Hno.out⟩⟩
  | true =>
    go_wp2_with fail
    refine (Open_yes _ q (c - 3) (restOfB f) w1 Hrl.out (by omega) (by omega) (by omega) Hs1.out Hbq.out).mono ?_
    rintro e w2 ⟨A2, c2, rfl, hown2, hb2⟩
    obtain ⟨fs, hfs⟩ : ∃ fs, (restOfB f).take (q - 4) = fs := ⟨_, rfl⟩
    rw [hfs, bytes_length] at hown2
    rw [hfs, bytes_length]
    have hyes : ∀ t, IsForm gen k t f → (rd3 fs).1 = t := fun t h => by rw [← hfs, ← Hrl.out]; exact isForm_text h
    have Hyes := Lib.hid hyes; clear hyes
    obtain ⟨m, hm⟩ : ∃ m, fs.length = m := ⟨_, rfl⟩
    have hmq : m ≤ 100000 := by rw [← hm, ← hfs, List.length_take]; omega
    rw [hm] at hown2 ⊢
    have Hs2 := Lib.hid (Seen.of_own hown2)
    have Hb2 := Lib.hid (Hb1.out.trans (hb2.mono Hb1.out.size))
    have Hm := Lib.hid hm
    clear hm hfs hown2 hb2
    go_wp2_with fail
    refine (NewR_any A2 m c2 fs w2 Hm.out (by omega) Hs2.out).mono ?_
    rintro e w3 ⟨gr, rfl, hgr, hr3, hb3⟩
    have Hb3 := Lib.hid (Hb2.out.trans (hb3.mono Hb2.out.size))
    have Hr3 := Lib.hid hr3
    have hgb : w.heap.size ≤ gr := Nat.le_trans Hb2.out.size hgr
    clear hr3 hb3 hgr
    go_wp2_with fail
    refine (RNum_any gr 0 fs 1099511627776 w3 Hr3.out (by omega) (by omega)).mono ?_
    rintro e w4 ⟨rfl, hr4, ht4⟩
    have Hr4 := Lib.hid (show IsR w4 gr (rd1 fs).2.1 (rd1 fs).2.2 from hr4)
    have Hb4 := Lib.hid (Hb3.out.trans (ht4.below (fun k e => by rw [e]; exact hgb) Hb3.out.size))
    clear hr4 ht4
    go_wp2_with fail
    refine (RNum_any gr (rd1 fs).2.2 (rd1 fs).2.1 1099511627776 w4 Hr4.out (by omega) (by omega)).mono ?_
    rintro e w5 ⟨rfl, hr5, ht5⟩
    have Hr5 := Lib.hid (show IsR w5 gr (rd2 fs).2.1 (rd2 fs).2.2 from hr5)
    have Hb5 := Lib.hid (Hb4.out.trans (ht5.below (fun k e => by rw [e]; exact hgb) Hb4.out.size))
    clear hr5 ht5
    go_wp2_with fail
    refine (RText_any gr (rd2 fs).2.2 (rd2 fs).2.1 (m : Int) w5 Hr5.out (by omega) (by omega)).mono ?_
    rintro e w6 ⟨A6, c6, rfl, hown6, _, ht6⟩
    rw [show rdText (rd2 fs).2.1 (rd2 fs).2.2 (m : Int) = rd3 fs by unfold rd3; rw [Hm.out]] at hown6 ⊢
    obtain ⟨t, ht⟩ : ∃ t, (rd3 fs).1 = t := ⟨_, rfl⟩
    rw [ht] at hown6 ⊢
    have Hyes2 := Lib.hid (show ∀ t', IsForm gen k t' f → t = t' from fun t' h => ht.symm.trans (Hyes.out t' h))
    clear ht
    have Hb6 := Lib.hid (Hb5.out.trans (ht6.below (fun k e => by rw [e]; exact hgb) Hb5.out.size))
    have Hown6 := Lib.hid (own_base hown6 Hb5.out.size)
    clear hown6 ht6
    go_wp2_with fail
    refine (Form_any (gen : Int) (k : Int) A6 t.length c6 t w6 (by omega) (by omega) (by omega) (by omega) rfl (Seen.of_own Hown6.out)).mono ?_
    have notext : (formE (gen : Int) (k : Int) t ≠ 0 ∨ formX 1 gen k t ≠ f) → ∀ t', ¬ IsForm gen k t' f := fun h t' h' => by
      obtain rfl := Hyes2.out t' h'
      rcases h with h | h
      · exact h h'.1
      · exact h h'.2
    have Notext := Lib.hid notext; clear notext
    rintro e w7 ⟨hb7, (⟨hne, rfl⟩ | ⟨h0, b, rfl, hbb, hblk⟩)⟩
    · have Hb7 := Lib.hid (Hb6.out.trans (hb7.mono Hb6.out.size))
      have Hno := Lib.hid (Notext.out (.inl hne))
      have hd : ((formE (gen : Int) (k : Int) t : Int) != 0) = true := by simp; exact hne
      obtain ⟨x, hx⟩ : ∃ x : Int, (formE (gen : Int) (k : Int) t : Int) = x := ⟨_, rfl⟩
      rw [hx] at hd ⊢
      clear hx hne hb7
      go_wp2
      go_ret2
      exact ⟨Hb7.out, .inr ⟨rfl, Hno.out⟩⟩
    · have Hb7 := Lib.hid (Hb6.out.trans (hb7.mono Hb6.out.size))
      have Hown7 := Lib.hid (own_below Hown6.out hb7)
      rw [Int.toNat_natCast, Int.toNat_natCast] at hblk ⊢
      have Hblk := Lib.hid (show Seen w7 (some ⟨b, 0, none⟩) (bytesV (formX 1 gen k t)) from by simpa using Seen.of_cells hblk)
      have Hl := Lib.hid (form_length 1 gen k t)
      have H0 := Lib.hid h0
      obtain ⟨z, hz⟩ : ∃ z, 64 * manyOf gen k t = z := ⟨_, rfl⟩
      rw [hz] at Hl ⊢
      clear hblk hb7 h0 hz
      go_wp2_with fail
      refine (BytesEqual_any (some ⟨b, 0, none⟩) (some ⟨g, o, none⟩) z n z c (formX 1 gen k t) f w7 Hl.out Hn.out Hblk.out (Hs.out.below Hb7.out)).mono ?_
      rintro e w8 ⟨rfl, rfl⟩
      by_cases he : formX 1 gen k t = f
      · rw [decide_eq_true he]
        go_wp2
        go_ret2
        exact ⟨Hb7.out, .inl ⟨t, A6, c6, rfl, Hown7.out, H0.out, he⟩⟩
      · rw [decide_eq_false he]
        go_wp2
        go_ret2
        exact ⟨Hb7.out, .inr ⟨rfl, Notext.out (.inr he)⟩⟩
end Go.Proofs.YtdlgihgdpdiglaaGreat
end

section
namespace Go.Proofs.YtdlgihgdpdiglaaGreat
open Go.ChangeShapes Go.WideShapes Go.ChangeAt Go.RowKit
set_option linter.unusedVariables false

set_option maxRecDepth 100000 in
theorem Scan_nil (a m gen : Int) (w : World) :
    Calls Tryz.prog 62 #[.pointer none, .int .i64 a, .int .i64 m, .int .i64 gen] w fun e w' => e = .returned (.tuple #[.slice none 0 0, .int .i64 0, .int .i64 1]) ∧ w = w' := by
  go_enter Tryz.func62, Tryz.ntmps62
  go_wp2
  go_step3
  go_wp2
  simp only [Exit.noGoto]
  go_ret3
  exact ⟨rfl, rfl⟩

/-- the bytes of a part -/
def Dv.part (d : Dv) (a m : Nat) : List UInt8 := (d.view.drop (64 * a)).take (64 * m)
def ScanRet (gen : Nat) (d : Dv) (a m : Nat) (w : World) (en : Ending) (w' : World) : Prop :=
  Below w.heap.size w w' ∧ ∃ ts A n c, en = .returned (.tuple #[.slice A n c, .int .i64 (secsUp gen 0 ts : Int), .int .i64 0]) ∧ Scanned gen (d.part a m) ts ∧ TextsAt w A n c ts w'

theorem texts_info : (Tryz.prog.info? 39).map (fun i => (i.zero, i.size, i.bytes)) = some (some (.slice none 0 0), 1, 24) := by kernel_rfl
theorem part_length {d : Dv} (h : d.Ok) {a m : Nat} (ham : a + m ≤ d.n) : (d.part a m).length = 64 * m := by
  unfold Dv.part
  rw [List.length_take, List.length_drop, view_length h]
  omega
/-- a sector of what is left of a part -/
theorem part_sec {d : Dv} (h : d.Ok) {a m u j : Nat} (ham : a + m ≤ d.n) (hj : u + j < m) : newest d.L d.S (a + (u + j)) = sec ((d.part a m).drop (64 * u)) j := by
  rw [newest_view h (by omega), sec, sec, Dv.part, List.drop_drop, List.drop_take, List.drop_drop, List.take_take, Nat.min_eq_left (by omega)]
  congr 2
  omega
theorem take_more {b : List UInt8} {j : Nat} : b.take (64 * (j + 1)) = b.take (64 * j) ++ sec b j := by
  rw [sec, show 64 * (j + 1) = 64 * j + 64 by omega, List.take_add]
theorem restN_take {b : List UInt8} {j : Nat} (h : 1 ≤ j) : restN (b.take (64 * j)) = restN b := by
  unfold restN
  simp only [List.getD_eq_getElem?_getD]
  rw [List.getElem?_take, List.getElem?_take, if_pos (by omega), if_pos (by omega)]
/-- no record: it begins otherwise, or says that it is too long -/
theorem none_head {gen k : Nat} {b : List UInt8} (h : b[0]? ≠ some 1 ∨ 16 < secsOf (restN b)) : ∀ t, ¬ Stands gen k t b := fun t hs => by
  have h3 := (formE_nat hs.1).2.2
  have h1 := form_says h3 hs.2
  rcases h with h | h
  · exact h h1.1
  · rw [h1.2.2.2.1] at h3; omega
/-- no record: the part ends within it -/
theorem none_short {gen k : Nat} {b : List UInt8} (h : b.length < 64 * secsOf (restN b)) : ∀ t, ¬ Stands gen k t b := fun t hs => by
  have h1 := form_says (formE_nat hs.1).2.2 hs.2
  omega
/-- no record: no text has this form -/
theorem none_text {gen k : Nat} {b : List UInt8} (h : ∀ t, ¬ IsForm gen k t (b.take (64 * secsOf (restN b)))) : ∀ t, ¬ Stands gen k t b := fun t hs => by
  have h1 := form_says (formE_nat hs.1).2.2 hs.2
  exact h t ⟨hs.1, h1.2.2.2.2.1⟩
theorem one_text {gen k : Nat} {b t : List UInt8} (h : IsForm gen k t (b.take (64 * secsOf (restN b)))) (hl : 64 * secsOf (restN b) ≤ b.length) : Stands gen k t b ∧ manyOf gen k t = secsOf (restN b) := by
  have e : (formX 1 gen k t).length = 64 * secsOf (restN b) := by rw [h.2, List.length_take]; omega
  rw [form_length] at e
  exact ⟨⟨h.1, by rw [h.2]; exact List.take_prefix _ _⟩, by omega⟩

/-- where the scan's outer loop stands -/
def OutAt (gen : Nat) (b : List UInt8) (w : World) (A : Option Addr) (n c u : Nat) (wr : World) : Prop :=
  ∃ ts, TextsAt w A n c ts wr ∧ Stood gen 0 b ts ∧ u = secsUp gen 0 ts ∧ Below w.heap.size w wr
/-- where its inner loop stands: so many sectors of what is left were read -/
def InAt (rem : List UInt8) (w0 : World) (A : Option Addr) (c j : Nat) (wr : World) : Prop :=
  wr.ownsRow w0.heap.size 5 1 (.slice A (64 * j) c) (64 * j) (bytesV (rem.take (64 * j))) ∧ Below w0.heap.size w0 wr ∧ (j = 0 ∨ (rem[0]? = some 1 ∧ j < secsOf (restN rem) ∧ secsOf (restN rem) ≤ 16))

set_option maxRecDepth 100000 in
set_option maxHeartbeats 4000000 in
theorem Scan_any (B g s : Nat) (r : Option Nat) (d : Dv) (a m gen : Nat) (w : World) (h : IsD w B g s r d) (hL : d.L.length ≤ 1000000) (hd : d.down = false) (ham : a + m ≤ d.n) (hg : gen ≤ 1099511627776) :
    Calls Tryz.prog 62 #[.pointer (some ⟨g, 0, none⟩), .int .i64 (a : Int), .int .i64 (m : Int), .int .i64 (gen : Int)] w (ScanRet gen d a m w) := by
  have H := Lib.hid h; clear h
  have hn := H.out.1.n
  have hw : withinB d.n a m = true := decide_eq_true (by omega)
  have hc : decide ((0 : Int) ≤ gen ∧ (gen : Int) ≤ 1099511627776) = true := decide_eq_true (by omega)
  have hpl := part_length H.out.1 ham
  have Hsec := Lib.hid (fun u j => part_sec (u := u) (j := j) H.out.1 ham)
  obtain ⟨b, hb⟩ : ∃ b, d.part a m = b := ⟨_, rfl⟩
  have Hret := Lib.hid (show ∀ en w', (Below w.heap.size w w' ∧ ∃ ts A n c, en = .returned (.tuple #[.slice A n c, .int .i64 (secsUp gen 0 ts : Int), .int .i64 0]) ∧ Scanned gen b ts ∧ TextsAt w A n c ts w') → ScanRet gen d a m w en w' from fun en w' h => by rw [← hb] at h; exact h)
  rw [hb] at hpl Hsec
  have Hpl := Lib.hid hpl
  have Hw := Lib.hid hw; have Hc := Lib.hid hc; have Hd := Lib.hid hd
  clear hw hc hd hb hpl
  go_enter Tryz.func62, Tryz.ntmps62
  go_wp2
  go_step3
  go_wp2_with (first
    | (go_at_call 122; refine (within_any B g s r d a m w H.out (by omega) (by omega) (by omega) (by omega)).mono ?_; rw [Hw.out]; rintro e w1 ⟨rfl, rfl⟩)
    | (go_at_call 123; refine (counts_any gen w (by omega) (by omega)).mono ?_; rw [Hc.out]; rintro e w1 ⟨rfl, rfl⟩)
    | (go_at_call 124; refine (Down_any B g s r d w H.out).mono ?_; rw [Hd.out]; rintro e w1 ⟨rfl, rfl⟩))
  go_step3
  go_wp2
  go_loopw [11, 12] (fun tv uv wr => ∃ A n c u, tv = .slice A n c ∧ uv = .int .i64 ((u : Nat) : Int) ∧ OutAt gen b w A n c u wr) (fun _ uv _ => m - (intOf uv).toNat)
  case atStart => exact ⟨none, 0, 0, 0, rfl, rfl, [], TextsAt.zero w w, trivial, rfl, Below.refl _ _⟩
  case round =>
    obtain ⟨A, n, c, u, rfl, rfl, ts, hts, hst, hu, hbw⟩ := hrel
    have hum : u ≤ m := by have := hst.le; rw [← hu, Hpl.out] at this; omega
    have hnts : n ≤ u := by have := secsUp_ge gen 0 ts; have := hts.1; omega
    have Hts := Lib.hid hts; have Hst := Lib.hid hst; have Hu := Lib.hid hu; have Hbw := Lib.hid hbw
    clear hts hst hu hbw
    by_cases hlt : u < m
    · obtain ⟨rem, hrem⟩ : ∃ rem, b.drop (64 * u) = rem := ⟨_, rfl⟩
      have hreml : rem.length = 64 * (m - u) := by rw [← hrem, List.length_drop, Hpl.out]; omega
      have Hrem := Lib.hid hrem; have Hreml := Lib.hid hreml
      clear hrem hreml
      have stop := Lib.hid (show (∀ t, ¬ Stands gen n t rem) → Scanned gen b ts from fun h => ⟨Hst.out, fun t => by rw [← Hu.out, Hrem.out, Hts.out.1]; exact h t⟩)
      obtain ⟨q, hq⟩ : ∃ q, secsOf (restN rem) = q := ⟨_, rfl⟩
      have hq1 : 1 ≤ q := by rw [← hq]; exact secs_pos _
      have Hq := Lib.hid hq; clear hq
      obtain ⟨wo, rfl⟩ : ∃ wo, wo = wr := ⟨_, rfl⟩
      go_wp2
      go_loopw [11, 12, 13, 14] (fun tv uv fv iv wr2 => ∃ A2 c2 j, tv = .slice A n c ∧ uv = .int .i64 ((u : Nat) : Int) ∧ fv = .slice A2 (64 * j) c2 ∧ iv = .int .i64 ((u + j : Nat) : Int) ∧ u + j ≤ m ∧ InAt rem wo A2 c2 j wr2) (fun _ _ _ iv _ => m - (intOf iv).toNat)
      case atStart => exact ⟨none, 0, 0, rfl, rfl, rfl, rfl, by omega, World.ownsRow_nil _ _ _ _, Below.refl _ _, .inl rfl⟩
      case round =>
        obtain ⟨A2, c2, j, rfl, rfl, rfl, rfl, hjm, hown, hbr, hway⟩ := hrel
        have Hown := Lib.hid hown; have Hbr := Lib.hid hbr; have Hway := Lib.hid hway
        clear hown hbr hway
        by_cases hj : u + j < m
        · have hi : a + (u + j) < d.n := by omega
          have hrd := Read_any B g s r d (a + (u + j)) wr (H.out.below (Hbw.out.trans (Hbr.out.mono Hbw.out.size))) hL Hd.out hi
          rw [Hsec.out u j hj, Hrem.out, show ((a + (u + j) : Nat) : Int) = (a : Int) + ((u + j : Nat) : Int) by omega] at hrd
          have Hrd := Lib.hid hrd; clear hrd
          obtain ⟨v, hv⟩ : ∃ v, u + j = v := ⟨_, rfl⟩
          rw [hv] at hj hjm ⊢
          rw [hv] at Hrd
          have hsl : (sec rem j).length = 64 := sec_length (n := m - u) (by rw [Hreml.out]; omega) (by omega)
          have Hsl := Lib.hid hsl; clear hsl
          obtain ⟨F, hF⟩ : ∃ F, rem.take (64 * (j + 1)) = F := ⟨_, rfl⟩
          have HF := Lib.hid hF
          have hFl : F.length = 64 * (j + 1) := by rw [← hF, List.length_take, Hreml.out]; omega
          have hFa : F = rem.take (64 * j) ++ sec rem j := by rw [← hF]; exact take_more
          have hFq : secsOf (restN F) = q := by rw [← hF, restN_take (by omega)]; exact Hq.out
          obtain ⟨x, hx⟩ : ∃ x, rem[0]? = some x := ⟨_, List.getElem?_eq_getElem (by rw [Hreml.out]; omega)⟩
          have hF0 : F[0]? = some x := by rw [← hF, List.getElem?_take, if_pos (by omega)]; exact hx
          obtain ⟨y, hy⟩ : ∃ y, x.toNat = y := ⟨_, rfl⟩
          have Hx := Lib.hid hx; have HFl := Lib.hid hFl; have HFa := Lib.hid hFa; have HFq := Lib.hid hFq; have HF0 := Lib.hid hF0; have Hy := Lib.hid hy
          have hjq : j < q ∨ j = 0 := by rcases Hway.out with h | h; exact .inr h; exact .inl (by rw [← Hq.out]; exact h.2.1)
          clear hF hFl hFa hFq hx hF0 hy
          obtain ⟨J, hJ⟩ : ∃ J, 64 * j = J := ⟨_, rfl⟩
          rw [hJ] at Hown ⊢
          obtain ⟨K, hK⟩ : ∃ K, J + 64 = K := ⟨_, rfl⟩
          have HK := Lib.hid (show K = 64 * (j + 1) by omega)
          have hKm : K ≤ 300000 := by omega
          have hK0 : 64 ≤ K := by omega
          have HJ := Lib.hid hJ; clear hJ
          go_wp2_with (first
            | (go_at_call 59; go_loud (refine Hrd.out.mono ?_); rintro e w3 ⟨pb, rfl, hpb, hblk, hb3⟩; have Hblk := Lib.hid (Blk.seen hblk); have Hb3 := Lib.hid (Hbr.out.trans (hb3.mono Hbr.out.size)); have Hown3 := Lib.hid (own_below Hown.out hb3); clear hblk hb3)
            | (at_builtin; refine wpList_app rfl (.tmp 58) (.tmp 59) _ rfl 5 _ 1 Tryz.underlying39 u8_info rfl wo.heap.size A2 J c2 (bytesV (rem.take J)) rfl Hown3.out (some ⟨pb, 0, none⟩) 64 64 (bytesV (sec rem j)) rfl (by rw [bytes_length]; exact Hsl.out) Hblk.out (bytes_one _) (by unfold maxLen; omega) (by omega) Hb3.out.size ?_; intro A4 c4 w4 hown4 hb4; rw [hK, ← bytes_append] at hown4; have Hb4 := Lib.hid (Hb3.out.trans hb4); have Hown4 := Lib.hid hown4; clear hown4 hb4))
          have hown5 : w4.ownsRow wo.heap.size 5 1 (.slice A4 K c4) K (bytesV F) := by rw [HFa.out, HJ.out]; exact Hown4.out
          obtain ⟨gf, cap, hv4, hgf, hgl⟩ := hown5.form (by omega)
          injection hv4 with hA4 _ hc4
          subst hA4; subst hc4
          have hcp := own_cap hown5 (by omega)
          refine (sizeOf_any _ K c4 F w4 (by rw [HFl.out, HK.out]) (by omega) (Seen.of_own hown5)).mono ?_
          rw [HFq.out]
          rintro e w5 ⟨rfl, hb5⟩
          have Hown5 := Lib.hid (own_below hown5 hb5)
          have Hb5 := Lib.hid (Hb4.out.trans (hb5.mono Hb4.out.size))
          have hcell : w5.cell? ⟨gf, 0, none⟩ = some (.int .u8 (y : Int)) := by
            have := Hown5.out.cells (g := gf) rfl 0 (.int .u8 (y : Int)) (by rw [← Hy.out, bytesV, List.getElem?_map, HF0.out]; rfl)
            rwa [Addr.add_lit] at this
          clear hown5 hb5 Hown4
          have k0 : (0 : Int) < (K : Int) := by omega
          by_cases hy1 : y = 1
          · have hcell1 : w5.cell? ⟨gf, 0, none⟩ = some (.int .u8 1) := by rw [hcell, hy1]; rfl
            have hrem1 : rem[0]? = some 1 := by rw [Hx.out]; congr 1; exact UInt8.toNat_inj.1 (by rw [Hy.out]; exact hy1)
            have Hrem1 := Lib.hid hrem1; clear hrem1 hcell hy1
            by_cases h16 : 16 < q
            · have hs := Lib.hid (stop.out (none_head (.inr (by rw [Hq.out]; exact h16))))
              have h16i : (16 : Int) < (q : Int) := by omega
              go_wp2
              simp only [Exit.noGoto]
              go_ret3
              exact Hret.out _ _ ⟨Hbw.out.trans (Hb5.out.mono Hbw.out.size), ts, A, n, c, by rw [← Hu.out]; rfl, hs.out, Hts.out.below Hb5.out⟩
            · have h16i : ¬ (16 : Int) < (q : Int) := by omega
              by_cases hqj : K < q * 64
              · have hqji : (K : Int) < (q : Int) * 64 := by omega
                go_wp2
                go_roundw
                case rel => exact ⟨_, c4, j + 1, rfl, rfl, by rw [← HK.out], by go_num, by omega, by rw [← HK.out, show rem.take K = F by rw [HK.out]; exact HF.out]; exact Hown5.out, Hb5.out, .inr ⟨Hrem1.out, by rw [Hq.out]; have := HK.out; omega, by rw [Hq.out]; omega⟩⟩
                case measure => simp [intOf]; omega
              · have hqji : ¬ (K : Int) < (q : Int) * 64 := by omega
                have hqj1 : q = j + 1 := by have := HK.out; omega
                have hFt : rem.take (64 * secsOf (restN rem)) = F := by rw [Hq.out, hqj1, HF.out]
                have hFle : 64 * secsOf (restN rem) ≤ rem.length := by rw [Hq.out, Hreml.out]; omega
                have HFt := Lib.hid hFt; have HFle := Lib.hid hFle
                clear hFt hFle
                go_wp2_with fail
                refine (textOf_any gen n (some ⟨gf, 0, none⟩) K c4 F w5 hg (by omega) (by rw [HFl.out, HK.out]) (by omega) (by have := secs_le (r := restN F); rw [HFq.out] at this; omega) (by omega) hcp.2 (by have := HK.out; omega) (Seen.of_own Hown5.out)).mono ?_
                rintro e w6 ⟨hb6, (⟨t, At, ct, rfl, hownt, hisf⟩ | ⟨rfl, hno⟩)⟩
                · obtain ⟨hstd, hmn⟩ := one_text (by rw [HFt.out]; exact hisf) HFle.out
                  have hm0 : manyOf gen n t = j + 1 := by rw [hmn, Hq.out, hqj1]
                  have hst2 : Stood gen 0 b (ts ++ [t]) := Hst.out.snoc (by rw [Nat.zero_add, ← Hu.out, Hrem.out, Hts.out.1]; exact hstd)
                  have hup : secsUp gen 0 (ts ++ [t]) = v + 1 := by rw [secsUp_snoc, Nat.zero_add, Hts.out.1, hm0, ← Hu.out]; omega
                  have htl : t.length ≤ 1014 := text_small (formE_nat hstd.1).2.2
                  obtain ⟨T, hT⟩ : ∃ T, t.length = T := ⟨_, rfl⟩
                  rw [hT] at hownt htl ⊢
                  have Hts6 := Lib.hid (Hts.out.below (Hb5.out.trans (hb6.mono Hb5.out.size)))
                  have Hb6 := Lib.hid (Hbw.out.trans ((Hb5.out.trans (hb6.mono Hb5.out.size)).mono Hbw.out.size))
                  obtain ⟨hn6, ls, k1, k2, k3, k4⟩ := Hts6.out
                  have K1 := Lib.hid k1; have K2 := Lib.hid k2; have K3 := Lib.hid k3; have K4 := Lib.hid k4
                  have Hown6 := Lib.hid hownt
                  have Hrow := Lib.hid (show ∀ k, (Value.slice A n c).ownBlock = some k → k < w5.heap.size from fun k hk => by
                    obtain ⟨_, ls', k1', _⟩ := Hts.out
                    have := (k1'.lt k hk).2
                    have := Hb5.out.size
                    omega)
                  have H5 := Lib.hid (show w.heap.size ≤ w5.heap.size from Nat.le_trans Hbw.out.size Hb5.out.size)
                  have HT := Lib.hid hT; have Hst2 := Lib.hid hst2; have Hup := Lib.hid hup; have Hn6 := Lib.hid hn6
                  clear k1 k2 k3 k4 hb6 hisf hstd hmn hst2 hup hT hm0 hownt hn6
                  have hw6 : w.heap.size ≤ w6.heap.size := Hb6.out.size
                  go_wp2_with (at_builtin; refine wpList_app2 rfl (.tmp 88) (.tmp 90) _ rfl 39 _ 24 Tryz.underlying67 texts_info rfl w.heap.size A n c (listsV ls) rfl (K1.out.alloc _) (some ⟨w6.heap.size, 0, none⟩) 1 1 [.slice At T ct] rfl rfl (Seen.of_cells (heap_alloc_new w6 _)) (by simp [Value.oneCell']) (by unfold maxLen; omega) (by omega) (by simp; omega) ?_; intro A7 c7 w7 hown7 hg7 hr7; have Hts7 := Lib.hid (TextsAt.snoc Hn6.out K2.out K3.out K4.out K1.out HT.out (by omega) H5.out Hown6.out Hrow.out ((Below.refl w6.heap.size w6).alloc (Nat.le_refl _) _) hg7 hr7 hown7); have Hb7 := Lib.hid (((Below.refl w.heap.size w6).alloc hw6 _).grown hg7 (by simp; omega) (fun k hk => (K1.out.lt k hk).1)); clear hown7 hg7 hr7)
                  go_roundw
                  case rel => exact ⟨A7, n + 1, c7, v + 1, rfl, by go_num, ts ++ [t], Hts7.out, Hst2.out, Hup.out.symm, Hb6.out.trans Hb7.out⟩
                  case measure => simp [intOf]; omega
                · have hs := Lib.hid (stop.out (none_text (by rw [HFt.out]; exact hno)))
                  have Hb6 := Lib.hid (Hb5.out.trans (hb6.mono Hb5.out.size))
                  clear hb6 hno
                  go_wp2
                  simp only [Exit.noGoto]
                  go_ret3
                  exact Hret.out _ _ ⟨Hbw.out.trans (Hb6.out.mono Hbw.out.size), ts, A, n, c, by rw [← Hu.out]; rfl, hs.out, Hts.out.below Hb6.out⟩
          · have hs := Lib.hid (stop.out (none_head (.inl (by rw [Hx.out]; intro e; injection e with e; subst e; exact hy1 Hy.out.symm))))
            have hd : ((y : Int) != 1) = true := by simp; omega
            go_wp2
            simp only [Exit.noGoto]
            go_ret3
            exact Hret.out _ _ ⟨Hbw.out.trans (Hb5.out.mono Hbw.out.size), ts, A, n, c, by rw [← Hu.out]; rfl, hs.out, Hts.out.below Hb5.out⟩
        · have hj0 : 1 ≤ j := by omega
          have hs := Lib.hid (stop.out (none_short (by
            have := Hway.out
            rw [Hreml.out]
            omega)))
          have hjn : u + j = m := by omega
          obtain ⟨v, hv⟩ : ∃ v, u + j = v := ⟨_, rfl⟩
          have hvn : ¬ (v : Int) < (m : Int) := by omega
          rw [hv]
          clear hjn hv
          go_wp2
          go_ret3
          exact Hret.out _ _ ⟨Hbw.out.trans (Hbr.out.mono Hbw.out.size), ts, A, n, c, by rw [← Hu.out]; rfl, hs.out, Hts.out.below Hbr.out⟩
    · obtain rfl : u = m := by omega
      have hsc : Scanned gen b ts := ⟨Hst.out, fun t => by
        rw [← Hu.out, List.drop_eq_nil_of_le (by rw [Hpl.out]; omega)]
        exact none_head (.inl (by simp)) t⟩
      have Hsc := Lib.hid hsc; clear hsc
      go_wp2
      simp only [Exit.noGoto]
      go_ret3
      exact Hret.out _ _ ⟨Hbw.out, ts, A, n, c, by rw [← Hu.out]; rfl, Hsc.out, Hts.out⟩
end Go.Proofs.YtdlgihgdpdiglaaGreat
end

section
namespace Go.Proofs.YtdlgihgdpdiglaaGreat
open Go.ChangeShapes Go.WideShapes Go.ChangeAt Go.RowKit
set_option linter.unusedVariables false

/-- a journal at j over a device at g, what isn't whole as yet in a row q of its own -/
def IsJ (w : World) (B g s : Nat) (r : Option Nat) (j : Nat) (q : Option Nat) (J : Jn) : Prop :=
  J.Ok ∧ IsD w B g s r J.d ∧ B ≤ j ∧ j ≠ g ∧ j ≠ s ∧ r ≠ some j ∧ q ≠ some j ∧ q ≠ some g ∧ q ≠ some s ∧ (∀ k, q = some k → r ≠ some k) ∧
  ∃ A c, w.heap[j]? = some (.cells #[.pointer (some ⟨g, 0, none⟩), .int .i64 (J.gen : Int), .int .i64 (J.k : Int), .int .i64 (J.next : Int), .int .i64 (J.fin : Int), .slice A J.L.length c, .bool J.dead] 243 (0, 0)) ∧
    w.ownsRow B 256 65 (.slice A J.L.length c) J.L.length (wcells J.L) ∧ (Value.slice A J.L.length c).ownBlock = q
/-- the blocks of a journal and its device -/
def FootJ (g s : Nat) (r : Option Nat) (j : Nat) (q : Option Nat) (k : Nat) : Prop := k = g ∨ k = s ∨ k = j ∨ r = some k ∨ q = some k
/-- only these may have turned; the rows are the old ones, or new -/
def MovedJ (B g s : Nat) (r : Option Nat) (j : Nat) (q : Option Nat) (J : Jn) (w w' : World) : Prop :=
  ∃ r' q', IsJ w' B g s r' j q' J ∧ (∀ k, r' = some k → r = some k ∨ w.heap.size ≤ k) ∧ (∀ k, q' = some k → q = some k ∨ w.heap.size ≤ k) ∧ Turned (FootJ g s r j q) w w'

theorem IsJ.lt {w : World} {B g s : Nat} {r : Option Nat} {j : Nat} {q : Option Nat} {J : Jn} (h : IsJ w B g s r j q J) : ∀ k, FootJ g s r j q k → B ≤ k ∧ k < w.heap.size := by
  obtain ⟨_, hd, hB, _, _, _, _, _, _, _, A, c, hh, hown, hq⟩ := h
  have hl := hd.lt
  rintro k (rfl | rfl | rfl | e | e)
  · exact ⟨hl.2.2.1, hl.1⟩
  · exact ⟨hl.2.2.2.1, hl.2.1⟩
  · exact ⟨hB, (Array.getElem?_eq_some_iff.1 hh).1⟩
  · exact hl.2.2.2.2 k e
  · rw [← hq] at e
    exact hown.lt k e
theorem IsJ.dev {w : World} {B g s : Nat} {r : Option Nat} {j : Nat} {q : Option Nat} {J : Jn} (h : IsJ w B g s r j q J) : IsD w B g s r J.d := h.2.1
theorem IsJ.ok {w : World} {B g s : Nat} {r : Option Nat} {j : Nat} {q : Option Nat} {J : Jn} (h : IsJ w B g s r j q J) : J.Ok := h.1
theorem MovedJ.refl {w : World} {B g s : Nat} {r : Option Nat} {j : Nat} {q : Option Nat} {J : Jn} (h : IsJ w B g s r j q J) : MovedJ B g s r j q J w w := ⟨r, q, h, fun k e => .inl e, fun k e => .inl e, .refl _ _⟩
theorem MovedJ.step {w w1 w2 : World} {B g s : Nat} {r r1 : Option Nat} {j : Nat} {q q1 : Option Nat} {J : Jn} (h1 : ∀ k, r1 = some k → r = some k ∨ w.heap.size ≤ k) (h2 : ∀ k, q1 = some k → q = some k ∨ w.heap.size ≤ k) (h3 : Turned (FootJ g s r j q) w w1) (k : MovedJ B g s r1 j q1 J w1 w2) : MovedJ B g s r j q J w w2 := by
  obtain ⟨r2, q2, k1, k2, k3, k4⟩ := k
  refine ⟨r2, q2, k1, fun i hi => ?_, fun i hi => ?_, h3.trans k4 (fun _ e => e) fun i hi e => ?_⟩
  · rcases k2 i hi with e | e
    · exact h1 i e
    · exact .inr (Nat.le_trans h3.size e)
  · rcases k3 i hi with e | e
    · exact h2 i e
    · exact .inr (Nat.le_trans h3.size e)
  · rcases e with e | e | e | e | e
    · exact .inl e
    · exact .inr (.inl e)
    · exact .inr (.inr (.inl e))
    · rcases h1 i e with e | e
      · exact .inr (.inr (.inr (.inl e)))
      · omega
    · rcases h2 i e with e | e
      · exact .inr (.inr (.inr (.inr e)))
      · omega
theorem MovedJ.trans {w w1 w2 : World} {B g s : Nat} {r : Option Nat} {j : Nat} {q : Option Nat} {J J2 : Jn} (h : MovedJ B g s r j q J w w1) (k : ∀ r1 q1, IsJ w1 B g s r1 j q1 J → MovedJ B g s r1 j q1 J2 w1 w2) : MovedJ B g s r j q J2 w w2 := by
  obtain ⟨r1, q1, h1, h2, h3, h4⟩ := h
  exact MovedJ.step h2 h3 h4 (k r1 q1 h1)
theorem MovedJ.below {w w' : World} {B g s : Nat} {r : Option Nat} {j : Nat} {q : Option Nat} {J J2 : Jn} (h0 : IsJ w B g s r j q J) (h : MovedJ B g s r j q J2 w w') (hB : B ≤ w.heap.size) : Below B w w' := by
  obtain ⟨r1, q1, h1, h2, h3, h4⟩ := h
  exact h4.below (fun k hk => (h0.lt k hk).1) hB
/-- what turns none of its blocks leaves it -/
theorem IsJ.turned {p : Nat → Prop} {w w' : World} {B g s : Nat} {r : Option Nat} {j : Nat} {q : Option Nat} {J : Jn} (h : IsJ w B g s r j q J) (ht : Turned p w w') (hp : ∀ k, FootJ g s r j q k → ¬ p k) : IsJ w' B g s r j q J := by
  obtain ⟨h1, hd, hB, h2, h3, h4, h5, h6, h7, h8, A, c, hh, hown, hq⟩ := h
  obtain ⟨d1, d2, d3, d4, d5, d6, d7, A', c', d8, d9, d10⟩ := hd
  refine ⟨h1, ⟨d1, d2, d3, d4, d5, d6, ht.heap d7 (hp s (.inr (.inl rfl))), A', c', ht.heap d8 (hp g (.inl rfl)), own65_turned ht d9 (fun k hk => hp k (.inr (.inr (.inr (.inl (by rw [← d10]; exact hk)))))), d10⟩,
    hB, h2, h3, h4, h5, h6, h7, h8, A, c, ht.heap hh (hp j (.inr (.inr (.inl rfl)))), own65_turned ht hown (fun k hk => hp k (.inr (.inr (.inr (.inr (by rw [← hq]; exact hk)))))), hq⟩
theorem IsJ.below {w w' : World} {B g s : Nat} {r : Option Nat} {j : Nat} {q : Option Nat} {J : Jn} (h : IsJ w B g s r j q J) (hb : Below w.heap.size w w') : IsJ w' B g s r j q J := h.turned (p := fun _ => False) (.of_below hb) (fun _ _ e => e)
/-- the device has moved -/
theorem IsJ.moved {w w' : World} {B g s : Nat} {r : Option Nat} {j : Nat} {q : Option Nat} {J : Jn} {d2 : Dv} (h : IsJ w B g s r j q J) (hm : MovedD B g s r d2 w w') (hn : d2.n = J.d.n) : MovedJ B g s r j q { J with d := d2 } w w' := by
  have hlt := h.lt
  obtain ⟨h1, hd, hB, h2, h3, h4, h5, h6, h7, h8, A, c, hh, hown, hq⟩ := h
  obtain ⟨r', k1, k2, k3⟩ := hm
  have hj : ¬ (j = g ∨ j = s ∨ r = some j) := by
    rintro (e | e | e)
    · exact h2 e
    · exact h3 e
    · exact h4 e
  have hqn : ∀ k, (Value.slice A J.L.length c).ownBlock = some k → ¬ (k = g ∨ k = s ∨ r = some k) := fun k hk => by
    rw [hq] at hk
    rintro (e | e | e)
    · exact h6 (by rw [hk, e])
    · exact h7 (by rw [hk, e])
    · exact h8 k hk e
  refine ⟨r', q, ⟨⟨k1.1, h1.gen, h1.k, h1.next, by show J.fin ≤ d2.n; rw [hn]; exact h1.fin, fun p hp => by show p.1 < d2.n ∧ _; rw [hn]; exact h1.L p hp, h1.l⟩, k1, hB, h2, h3, fun e => ?_, h5, h6, h7, fun k hk e => ?_, A, c, k3.heap hh hj, own65_turned k3 hown hqn, hq⟩, k2, fun k e => .inl e, k3.mono fun k _ e => ?_⟩
  · rcases k2 j e with e | e
    · exact h4 e
    · have := (hlt j (.inr (.inr (.inl rfl)))).2; omega
  · rcases k2 k e with e | e
    · exact h8 k hk e
    · have := (hlt k (.inr (.inr (.inr (.inr hk))))).2; omega
  · rcases e with e | e | e
    · exact .inl e
    · exact .inr (.inl e)
    · exact .inr (.inr (.inr (.inl e)))

theorem Room_any (B g s : Nat) (r : Option Nat) (j : Nat) (q : Option Nat) (J : Jn) (w : World) (h : IsJ w B g s r j q J) :
    Calls Tryz.prog 213 #[.pointer (some ⟨j, 0, none⟩)] w fun e w' => e = .returned (.int .i64 ((J.fin - J.next : Nat) : Int)) ∧ Below w.heap.size w w' := by
  obtain ⟨h1, hd, _, _, _, _, _, _, _, _, A, c, hh, _, _⟩ := h
  have c4 : w.cell? ⟨j, 4, none⟩ = some (.int .i64 (J.fin : Int)) := row_cell hh 4
  have c3 : w.cell? ⟨j, 3, none⟩ = some (.int .i64 (J.next : Int)) := row_cell hh 3
  have b1 := h1.next
  have b2 := h1.fin
  have b3 := hd.1.n
  have e : ((J.fin - J.next : Nat) : Int) = (J.fin : Int) - (J.next : Int) := by omega
  rw [e]
  clear hd hh e h1
  go_enter Tryz.func213, Tryz.ntmps213
  go_wp2
  go_quiet (fail)
  go_wp2
  go_ret
  exact ⟨rfl, below_drewN (Below.refl _ _) _⟩

theorem die_any (B g s : Nat) (r : Option Nat) (j : Nat) (q : Option Nat) (J : Jn) (x : Nat) (w : World) (h : IsJ w B g s r j q J) (hx : x ≤ 1000) :
    Calls Tryz.prog 214 #[.pointer (some ⟨j, 0, none⟩), .int .i64 (x : Int)] w fun e w' => e = .returned (.int .i64 (x : Int)) ∧ MovedJ B g s r j q (J.died J.d) w w' := by
  have H := Lib.hid h
  obtain ⟨h1, hd, hB, h2, h3, h4, h5, h6, h7, h8, A, c, hh, hown, hq⟩ := h
  have c6 : w.cell? ⟨j, 6, none⟩ = some (.bool J.dead) := row_cell hh 6
  have c5 : w.cell? ⟨j, 5, none⟩ = some (.slice A J.L.length c) := row_cell hh 5
  have f6 := row_frozen hh 6
  have f5 := row_frozen hh 5
  have hf : ∀ u, (w.setCell ⟨j, 6, none⟩ u).frozen? ⟨j, 5, none⟩ = false := fun u => by rw [World.frozen?_setCell]; exact f5
  have hc : ∀ u, (w.setCell ⟨j, 6, none⟩ u).cell? ⟨j, 5, none⟩ = some (.slice A J.L.length c) := fun u => by rw [World.cell?_setCell_other _ _ _ _ (by simp)]; exact c5
  have Hh := Lib.hid hh; clear hh h1 hd hown hq h2 h3 h4 h5 h6 h7 h8
  go_enter Tryz.func214, Tryz.ntmps214
  go_wp2
  go_ret
  refine ⟨rfl, ?_⟩
  have ht : Turned (fun k => k = j) w ((w.setCell ⟨j, 6, none⟩ (.bool true)).setCell ⟨j, 5, none⟩ (.slice none 0 0)) := ((Turned.refl (fun k => k = j) w).setCell (b := ⟨j, 6, none⟩) (fun _ => rfl) _).setCell (b := ⟨j, 5, none⟩) (fun _ => rfl) _
  obtain ⟨h1, hd, hB, h2, h3, h4, h5, h6, h7, h8, A, c, hh, hown, hq⟩ := H.out
  have hd' : IsD ((w.setCell ⟨j, 6, none⟩ (.bool true)).setCell ⟨j, 5, none⟩ (.slice none 0 0)) B g s r J.d := by
    obtain ⟨d1, d2, d3, d4, d5, d6, d7, A', c', d8, d9, d10⟩ := hd
    exact ⟨d1, d2, d3, d4, d5, d6, ht.heap d7 (fun e => h3 e.symm), A', c', ht.heap d8 (fun e => h2 e.symm), own65_turned ht d9 (fun k hk e => h4 (by rw [← d10, hk, e])), d10⟩
  refine ⟨r, none, ⟨⟨h1.d, h1.gen, h1.k, h1.next, h1.fin, fun p hp => (by cases hp), Nat.zero_le _⟩, hd', hB, h2, h3, h4, by simp, by simp, by simp, fun k e => (by cases e), none, 0, ?_, World.ownsRow_nil _ _ _ _, rfl⟩, fun k e => .inl e, fun k e => (by cases e), ht.mono fun k _ e => .inr (.inr (.inl e))⟩
  rw [row_set (row_set Hh.out _ _)]
  rfl
end Go.Proofs.YtdlgihgdpdiglaaGreat
end
