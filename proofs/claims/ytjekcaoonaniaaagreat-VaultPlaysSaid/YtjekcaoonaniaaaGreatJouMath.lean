/-
  Records as mathematics: a record's form, when it stands at the beginning of bytes, which records stand in bytes; what a device shows (view). It speaks of no program. No condition but what each lemma names.
-/
import Derived.Test.YtjekcaoonaniaaaGreatCrcMath
import Derived.Test.YtjekcaoonaniaaaGreatPackMath
import Derived.Test.YtjekcaoonaniaaaGreatSecMath
namespace Go.Proofs.YtjekcaoonaniaaaGreat
set_option linter.unusedVariables false

/-- a record's fields -/
def fieldsOf (gen n : Nat) (t : List UInt8) : List UInt8 := numB gen ++ numB n ++ (numB t.length ++ t)
/-- the rest of its form -/
def restB (gen n : Nat) (t : List UInt8) : List UInt8 := sealOf (fieldsOf gen n t)
def secsOf (rest : Nat) : Nat := (3 + rest + 64 - 1) / 64
def manyOf (gen n : Nat) (t : List UInt8) : Nat := secsOf (restB gen n t).length
def headOf (x : UInt8) (l : Nat) : List UInt8 := [x, UInt8.ofNat l, UInt8.ofNat (l / 256)]
def padOf (l : Nat) : List UInt8 := List.replicate (64 * secsOf l - (3 + l)) 0
/-- a record's form, with x as its first byte -/
def formX (x : UInt8) (gen n : Nat) (t : List UInt8) : List UInt8 := headOf x (restB gen n t).length ++ (restB gen n t ++ padOf (restB gen n t).length)
def formE (gen n : Int) (t : List UInt8) : Nat :=
  if gen < 0 ∨ 1099511627776 < gen ∨ n < 0 ∨ 1099511627776 < n then 5 else if 16 < manyOf gen.toNat n.toNat t then 15 else 0
/-- how many bytes the rest has, as bytes say -/
def restN (b : List UInt8) : Nat := (b.getD 1 0).toNat + 256 * (b.getD 2 0).toNat

theorem secs_le {r : Nat} : 3 + r ≤ 64 * secsOf r := by unfold secsOf; omega
theorem secs_pos (r : Nat) : 1 ≤ secsOf r := by unfold secsOf; omega
theorem secs_16 {r : Nat} (h : secsOf r ≤ 16) : r ≤ 1021 := by unfold secsOf at h; omega
theorem fields_length (gen n : Nat) (t : List UInt8) : (fieldsOf gen n t).length = (numB gen).length + (numB n).length + ((numB t.length).length + t.length) := by simp only [fieldsOf, List.length_append]
theorem rest_length (gen n : Nat) (t : List UInt8) : (restB gen n t).length = (fieldsOf gen n t).length + 4 := sealOf_length _
theorem rest_bound {gen n : Nat} {t : List UInt8} (hg : gen < 9223372036854775808) (hn : n < 9223372036854775808) (ht : t.length < 9223372036854775808) : (restB gen n t).length ≤ t.length + 31 := by
  have := numB_len9 hg; have := numB_len9 hn; have := numB_len9 ht
  rw [rest_length, fields_length]; omega
theorem text_small {gen n : Nat} {t : List UInt8} (h : manyOf gen n t ≤ 16) : t.length ≤ 1014 := by
  have := secs_16 h
  rw [rest_length, fields_length] at this
  have := numB_ne gen; have := numB_ne n; have := numB_ne t.length
  omega
theorem form_length (x : UInt8) (gen n : Nat) (t : List UInt8) : (formX x gen n t).length = 64 * manyOf gen n t := by
  have := secs_le (r := (restB gen n t).length)
  simp only [formX, headOf, padOf, List.length_append, List.length_cons, List.length_nil, List.length_replicate, manyOf]
  omega
theorem formE_zero {gen n : Int} {t : List UInt8} (h : formE gen n t = 0) : 0 ≤ gen ∧ gen ≤ 1099511627776 ∧ 0 ≤ n ∧ n ≤ 1099511627776 ∧ manyOf gen.toNat n.toNat t ≤ 16 := by
  unfold formE at h
  split at h
  · cases h
  · split at h
    · cases h
    · omega
theorem formE_nat {gen n : Nat} {t : List UInt8} (h : formE gen n t = 0) : gen ≤ 1099511627776 ∧ n ≤ 1099511627776 ∧ manyOf gen n t ≤ 16 := by
  have := formE_zero h
  simp only [Int.toNat_natCast] at this
  omega
theorem formE_mk {gen n : Nat} {t : List UInt8} (hg : gen ≤ 1099511627776) (hn : n ≤ 1099511627776) (hm : manyOf gen n t ≤ 16) : formE gen n t = 0 := by
  unfold formE
  rw [if_neg (by omega), if_neg (by simp only [Int.toNat_natCast]; omega)]

/-- what bytes say of a form at their beginning -/
theorem form_says {x : UInt8} {gen n : Nat} {t b : List UInt8} (hm : manyOf gen n t ≤ 16) (h : formX x gen n t <+: b) :
    b[0]? = some x ∧ restN b = (restB gen n t).length ∧ (b.drop 3).take (restN b) = restB gen n t ∧ manyOf gen n t = secsOf (restN b) ∧ formX x gen n t = b.take (64 * secsOf (restN b)) ∧ 64 * secsOf (restN b) ≤ b.length := by
  have hl := form_length x gen n t
  have h16 := secs_16 hm
  obtain ⟨c, hc⟩ := h
  have hr : restN b = (restB gen n t).length := by
    subst hc
    simp only [restN, formX, headOf, List.cons_append, List.getD_cons_succ, List.getD_cons_zero, UInt8.toNat_ofNat']
    omega
  have hb : b.length = 64 * manyOf gen n t + c.length := by rw [← hc, List.length_append, hl]
  refine ⟨?_, hr, ?_, by rw [hr]; rfl, ?_, by rw [hr, hb]; show 64 * manyOf gen n t ≤ _; omega⟩
  · subst hc; rfl
  · rw [hr, ← hc]
    show (((restB gen n t ++ padOf _) ++ c)).take _ = _
    rw [List.append_assoc, List.take_left]
  · rw [hr, ← hc]
    exact (List.take_left' (by rw [hl]; rfl)).symm

theorem numB_inj {a b : Nat} {x y : List UInt8} (ha : a < 9223372036854775808) (hb : b < 9223372036854775808) (h : numB a ++ x = numB b ++ y) : a = b ∧ x = y := by
  have h1 := numR_numB ha x
  rw [h, numR_numB hb y] at h1
  have e : a = b := (congrArg Prod.fst h1).symm
  subst e
  exact ⟨rfl, List.append_cancel_left h⟩
theorem fields_inj {gen n gen' n' : Nat} {t t' : List UInt8} (h1 : gen ≤ 1099511627776) (h2 : n ≤ 1099511627776) (h3 : gen' ≤ 1099511627776) (h4 : n' ≤ 1099511627776) (ht : t.length ≤ 1014) (ht' : t'.length ≤ 1014)
    (h : fieldsOf gen n t = fieldsOf gen' n' t') : gen = gen' ∧ n = n' ∧ t = t' := by
  unfold fieldsOf at h
  rw [List.append_assoc, List.append_assoc] at h
  obtain ⟨e1, h⟩ := numB_inj (by omega) (by omega) h
  obtain ⟨e2, h⟩ := numB_inj (by omega) (by omega) h
  obtain ⟨e3, h⟩ := numB_inj (by omega) (by omega) h
  exact ⟨e1, e2, h⟩

/-- a record of that generation, number and text stands at the beginning of bytes -/
def Stands (gen n : Nat) (t b : List UInt8) : Prop := formE gen n t = 0 ∧ formX 1 gen n t <+: b
theorem Stands.inj {gen n gen' n' : Nat} {t t' b : List UInt8} (h : Stands gen n t b) (h' : Stands gen' n' t' b) : gen = gen' ∧ n = n' ∧ t = t' := by
  obtain ⟨g1, g2, g3⟩ := formE_nat h.1
  obtain ⟨k1, k2, k3⟩ := formE_nat h'.1
  have a := (form_says g3 h.2).2.2.1
  have b := (form_says k3 h'.2).2.2.1
  have e : restB gen n t = restB gen' n' t' := a.symm.trans b
  have e2 : fieldsOf gen n t = fieldsOf gen' n' t' := by
    unfold restB sealOf at e
    exact (List.append_inj' e rfl).1
  exact fields_inj g1 g2 k1 k2 (text_small g3) (text_small k3) e2

/-- which records stand in bytes, one behind the other -/
def Stood (gen : Nat) : Nat → List UInt8 → List (List UInt8) → Prop
  | _, _, [] => True
  | k, b, t :: r => Stands gen k t b ∧ Stood gen (k + 1) (b.drop (64 * manyOf gen k t)) r
def secsUp (gen : Nat) : Nat → List (List UInt8) → Nat
  | _, [] => 0
  | k, t :: r => manyOf gen k t + secsUp gen (k + 1) r
theorem secsUp_snoc (gen : Nat) (t : List UInt8) : ∀ (k : Nat) (ts : List (List UInt8)), secsUp gen k (ts ++ [t]) = secsUp gen k ts + manyOf gen (k + ts.length) t
  | k, [] => by simp [secsUp]
  | k, u :: r => by
    simp only [List.cons_append, secsUp, secsUp_snoc gen t (k + 1) r, List.length_cons]
    rw [show k + 1 + r.length = k + (r.length + 1) by omega]
    omega
theorem secsUp_ge (gen : Nat) : ∀ (k : Nat) (ts : List (List UInt8)), ts.length ≤ secsUp gen k ts
  | _, [] => Nat.le_refl _
  | k, t :: r => by
    have := secsUp_ge gen (k + 1) r
    have := secs_pos (restB gen k t).length
    simp only [secsUp, List.length_cons, manyOf]
    omega
theorem Stood.snoc {gen : Nat} {t : List UInt8} : ∀ {k : Nat} {b : List UInt8} {ts : List (List UInt8)}, Stood gen k b ts → Stands gen (k + ts.length) t (b.drop (64 * secsUp gen k ts)) → Stood gen k b (ts ++ [t])
  | k, b, [], _, h => by
    have h' : Stands gen k t b := by simpa [secsUp] using h
    exact ⟨h', trivial⟩
  | k, b, u :: r, hs, h => by
    refine ⟨hs.1, Stood.snoc hs.2 ?_⟩
    rw [List.drop_drop, show k + 1 + r.length = k + (u :: r).length by simp; omega, show 64 * manyOf gen k u + 64 * secsUp gen (k + 1) r = 64 * secsUp gen k (u :: r) by simp [secsUp]; omega]
    exact h
theorem Stood.le {gen : Nat} : ∀ {k : Nat} {b : List UInt8} {ts : List (List UInt8)}, Stood gen k b ts → 64 * secsUp gen k ts ≤ b.length
  | _, _, [], _ => Nat.zero_le _
  | k, b, t :: r, h => by
    have h1 := Stood.le h.2
    have h2 := form_says (formE_nat h.1.1).2.2 h.1.2
    rw [List.length_drop, ] at h1
    have := h2.2.2.2.2.2
    rw [← h2.2.2.2.1] at this
    simp only [secsUp]
    omega
/-- the records that stand in a part's bytes: all, up to the first place at which none stands -/
def Scanned (gen : Nat) (b : List UInt8) (ts : List (List UInt8)) : Prop := Stood gen 0 b ts ∧ ∀ t, ¬ Stands gen ts.length t (b.drop (64 * secsUp gen 0 ts))
theorem stood_one {gen : Nat} : ∀ {k : Nat} {b : List UInt8} {ts us : List (List UInt8)}, Stood gen k b ts → (∀ t, ¬ Stands gen (k + ts.length) t (b.drop (64 * secsUp gen k ts))) → Stood gen k b us → (∀ t, ¬ Stands gen (k + us.length) t (b.drop (64 * secsUp gen k us))) → ts = us
  | k, b, [], [], _, _, _, _ => rfl
  | k, b, [], u :: us, _, h, h', _ => absurd (by simpa [secsUp] using h'.1) (h u)
  | k, b, t :: ts, [], h', _, _, h => absurd (by simpa [secsUp] using h'.1) (h t)
  | k, b, t :: ts, u :: us, h1, h2, h3, h4 => by
    obtain ⟨_, _, rfl⟩ := Stands.inj h1.1 h3.1
    congr 1
    refine stood_one h1.2 (fun x => ?_) h3.2 (fun x => ?_)
    · have := h2 x
      rwa [List.drop_drop, show k + 1 + ts.length = k + (t :: ts).length by simp; omega, show 64 * manyOf gen k t + 64 * secsUp gen (k + 1) ts = 64 * secsUp gen k (t :: ts) by simp [secsUp]; omega]
    · have := h4 x
      rwa [List.drop_drop, show k + 1 + us.length = k + (t :: us).length by simp; omega, show 64 * manyOf gen k t + 64 * secsUp gen (k + 1) us = 64 * secsUp gen k (t :: us) by simp [secsUp]; omega]
theorem Scanned.one {gen : Nat} {b : List UInt8} {ts us : List (List UInt8)} (h : Scanned gen b ts) (k : Scanned gen b us) : ts = us := stood_one h.1 (by simpa using h.2) k.1 (by simpa using k.2)
/-- where no record can begin -/
theorem no_stands {gen n : Nat} {t b : List UInt8} (h : b[0]? ≠ some 1) : ¬ Stands gen n t b := fun hs => h (form_says (formE_nat hs.1).2.2 hs.2).1

/-- forms in a row, with x as their first byte -/
def formsX (x : UInt8) (gen : Nat) : Nat → List (List UInt8) → List UInt8
  | _, [] => []
  | k, t :: r => formX x gen k t ++ formsX x gen (k + 1) r
theorem formsX_snoc (x : UInt8) (gen : Nat) (t : List UInt8) : ∀ (k : Nat) (ts : List (List UInt8)), formsX x gen k (ts ++ [t]) = formsX x gen k ts ++ formX x gen (k + ts.length) t
  | k, [] => by simp [formsX]
  | k, u :: r => by
    simp only [List.cons_append, formsX, formsX_snoc x gen t (k + 1) r, List.length_cons, List.append_assoc]
    rw [show k + 1 + r.length = k + (r.length + 1) by omega]
theorem formsX_length (x : UInt8) (gen : Nat) : ∀ (k : Nat) (ts : List (List UInt8)), (formsX x gen k ts).length = 64 * secsUp gen k ts
  | _, [] => rfl
  | k, t :: r => by simp only [formsX, secsUp, List.length_append, form_length, formsX_length x gen (k + 1) r]; omega
/-- forms in a row stand there -/
theorem stood_forms {gen : Nat} (c : List UInt8) : ∀ {k : Nat} {ts : List (List UInt8)}, (∀ (i : Nat) t, ts[i]? = some t → formE gen ((k + i : Nat) : Int) t = 0) → Stood gen k (formsX 1 gen k ts ++ c) ts
  | _, [], _ => trivial
  | k, t :: r, h => by
    have h0 := h 0 t rfl
    refine ⟨⟨by simpa using h0, ?_⟩, ?_⟩
    · simp only [formsX, List.append_assoc]
      exact List.prefix_append _ _
    · have e : (formsX 1 gen k (t :: r) ++ c).drop (64 * manyOf gen k t) = formsX 1 gen (k + 1) r ++ c := by
        simp only [formsX, List.append_assoc]
        exact List.drop_left' (form_length 1 gen k t)
      rw [e]
      exact stood_forms c fun i u hu => by
        have := h (i + 1) u (by simpa using hu)
        rwa [show k + (i + 1) = k + 1 + i by omega] at this
theorem zero_at {m : Nat} : (List.replicate m (0 : UInt8))[0]? ≠ some 1 := by
  cases m <;> simp [List.replicate_succ]
theorem scanned_forms {gen m : Nat} {ts : List (List UInt8)} (h : ∀ (i : Nat) t, ts[i]? = some t → formE gen (i : Int) t = 0) : Scanned gen (formsX 1 gen 0 ts ++ List.replicate m 0) ts := by
  refine ⟨stood_forms _ (fun i t hi => by rw [Nat.zero_add]; exact h i t hi), fun t => no_stands ?_⟩
  rw [List.drop_left' (formsX_length 1 gen 0 ts)]
  exact zero_at
theorem scanned_other {gen other m : Nat} {ts : List (List UInt8)} (hne : gen ≠ other) (h : ∀ (i : Nat) t, ts[i]? = some t → formE gen (i : Int) t = 0) : Scanned other (formsX 1 gen 0 ts ++ List.replicate m 0) [] := by
  refine ⟨trivial, fun t => ?_⟩
  simp only [secsUp, Nat.mul_zero, List.drop_zero, List.length_nil]
  cases ts with
  | nil => exact no_stands zero_at
  | cons u r =>
    intro hs
    have h1 : Stands gen 0 u (formsX 1 gen 0 (u :: r) ++ List.replicate m 0) := (stood_forms (gen := gen) (List.replicate m 0) (k := 0) (ts := u :: r) (fun i t hi => by rw [Nat.zero_add]; exact h i t hi)).1
    exact hne (h1.inj hs).1
theorem scanned_zeros (gen m : Nat) : Scanned gen (List.replicate m 0) [] := ⟨trivial, fun t => no_stands (by simpa [secsUp] using zero_at)⟩

/-! ### what a device shows -/
theorem snoc_ind {α : Type} {P : List α → Prop} (h0 : P []) (hs : ∀ l a, P l → P (l ++ [a])) (l : List α) : P l := by
  have h : ∀ n (l : List α), l.length = n → P l := by
    intro n
    induction n with
    | zero => intro l hl; rw [List.eq_nil_of_length_eq_zero hl]; exact h0
    | succ n ih =>
      intro l hl
      rcases List.eq_nil_or_concat l with rfl | ⟨l', a, rfl⟩
      · cases hl
      · rw [List.concat_eq_append] at hl ⊢
        exact hs _ _ (ih l' (by simpa using hl))
  exact h _ l rfl
def Dv.view (d : Dv) : List UInt8 := Go.Proofs.YtjekcaoonaniaaaGreat.settle [] 0 d.L d.S
theorem kept_nil (k : Nat) : kept [] k = 64 := rfl
theorem view_length {d : Dv} (h : d.Ok) : d.view.length = d.n * 64 := settle_length [] d.L 0 d.S d.n h.S h.L
theorem newest_settle {n i : Nat} {S : List UInt8} (hS : S.length = n * 64) (hi : i < n) : ∀ (L : List (Nat × List UInt8)), (∀ p ∈ L, p.1 < n ∧ p.2.length = 64) → newest L S i = sec (settle [] 0 L S) i := by
  refine snoc_ind (fun _ => rfl) fun L p ih hL => ?_
  · 
    have hL' : ∀ q ∈ L, q.1 < n ∧ q.2.length = 64 := fun q hq => hL q (by simp [hq])
    have hp := hL p (by simp)
    have hlen := settle_length [] L 0 S n hS hL'
    rw [settle_snoc, kept_nil, List.take_of_length_le (by omega)]
    by_cases e : p.1 = i
    · rw [e, sec_put_same hlen hi (by omega), List.drop_eq_nil_of_le (by rw [sec_length hlen hi]; omega), List.append_nil]
      unfold newest
      simp [e]
    · rw [sec_put_other hlen hi hp.1 (by omega) e, ← ih hL']
      unfold newest
      simp [e]
theorem newest_view {d : Dv} (h : d.Ok) {i : Nat} (hi : i < d.n) : newest d.L d.S i = sec d.view i := newest_settle h.S hi d.L h.L
/-- the power is on, and there is no fuse -/
def Dv.Up (d : Dv) : Prop := d.fuse < 0 ∧ d.down = false
theorem up_burnt {d : Dv} (h : d.Up) : d.burnt = d := by
  have := h.1
  unfold Dv.burnt
  rw [if_neg (by omega), if_neg (by omega)]
theorem up_write {d : Dv} (h : d.Up) {i : Nat} {bs : List UInt8} (hi : i < d.n) (hb : bs.length = 64) : d.writeE i bs = 0 ∧ d.write i bs = { d with L := d.L ++ [(i, bs)] } := by
  have hd : ¬ d.down = true := by rw [h.2]; simp
  have hok : (0 : Int) ≤ (i : Int) ∧ (i : Int) < d.n ∧ bs.length = 64 := ⟨by omega, by omega, hb⟩
  unfold Dv.writeE Dv.write
  rw [up_burnt h, if_neg hd, if_pos hok, if_neg hd, if_pos hok, Int.toNat_natCast]
  exact ⟨rfl, rfl⟩
theorem up_flush {d : Dv} (h : d.Up) : d.flushE = 0 ∧ d.flush = { d with S := d.view, L := [] } := by
  have hd : ¬ d.down = true := by rw [h.2]; simp
  unfold Dv.flushE Dv.flush
  rw [up_burnt h, if_neg hd, if_neg hd]
  exact ⟨rfl, rfl⟩
/-- writes one behind the other, up to the first error -/
def Dv.puts (d : Dv) : List (Nat × List UInt8) → Nat × Dv
  | [] => (0, d)
  | p :: r => if d.writeE p.1 p.2 = 0 then Dv.puts (d.write p.1 p.2) r else (d.writeE p.1 p.2, d.write p.1 p.2)
theorem writeE_ways (d : Dv) {i : Nat} {bs : List UInt8} (hi : i < d.n) (hb : bs.length = 64) : d.writeE i bs = 0 ∨ d.writeE i bs = 16 := by
  unfold Dv.writeE
  split
  · exact .inr rfl
  · rw [if_pos ⟨by omega, by omega, hb⟩]; exact .inl rfl
theorem write_n (d : Dv) (i : Int) (bs : List UInt8) : (d.write i bs).n = d.n := by
  unfold Dv.write
  split
  · exact Dv.burnt_n d
  · split
    · exact Dv.burnt_n d
    · exact Dv.burnt_n d
theorem write_L (d : Dv) (i : Int) (bs : List UInt8) : (d.write i bs).L.length ≤ d.L.length + 1 := by
  unfold Dv.write
  split
  · rw [Dv.burnt_L]; omega
  · split
    · simp
    · rw [Dv.burnt_L]; omega
theorem puts_n : ∀ (l : List (Nat × List UInt8)) (d : Dv), (d.puts l).2.n = d.n
  | [], _ => rfl
  | p :: r, d => by
    rw [Dv.puts]
    split
    · rw [puts_n r, write_n]
    · exact write_n ..
theorem puts_ok : ∀ (l : List (Nat × List UInt8)) {d : Dv}, d.Ok → (d.puts l).2.Ok
  | [], _, h => h
  | p :: r, d, h => by
    rw [Dv.puts]
    split
    · exact puts_ok r (h.write ..)
    · exact h.write ..
theorem puts_L : ∀ (l : List (Nat × List UInt8)) (d : Dv), (d.puts l).2.L.length ≤ d.L.length + l.length
  | [], _ => Nat.le_refl _
  | p :: r, d => by
    rw [Dv.puts]
    have := write_L d p.1 p.2
    split
    · have := puts_L r (d.write p.1 p.2)
      simp only [List.length_cons]; omega
    · simp only [List.length_cons]; omega
theorem up_puts : ∀ {l : List (Nat × List UInt8)} {d : Dv}, d.Up → (∀ p ∈ l, p.1 < d.n ∧ p.2.length = 64) → d.puts l = (0, { d with L := d.L ++ l })
  | [], d, _, _ => by simp [Dv.puts]
  | p :: r, d, h, hl => by
    have hp := hl p (.head _)
    obtain ⟨h1, h2⟩ := up_write h hp.1 hp.2
    rw [Dv.puts, if_pos h1, h2, up_puts (d := { d with L := d.L ++ [(p.1, p.2)] }) h (fun q hq => hl q (.tail _ hq))]
    simp [List.append_assoc]
theorem view_more (d : Dv) (l : List (Nat × List UInt8)) (hl : ∀ p ∈ l, p.2.length = 64) : ({ d with L := d.L ++ l } : Dv).view = l.foldl (fun S p => put S (64 * p.1) p.2) d.view := by
  revert hl
  refine snoc_ind (P := fun l => (∀ p ∈ l, p.2.length = 64) → ({ d with L := d.L ++ l } : Dv).view = l.foldl (fun S p => put S (64 * p.1) p.2) d.view) (fun _ => by simp) (fun l p ih hl => ?_) l
  · have hp := hl p (by simp)
    have ih := ih fun q hq => hl q (by simp [hq])
    simp only [Dv.view] at ih ⊢
    rw [← List.append_assoc, settle_snoc, kept_nil, List.take_of_length_le (by omega), ih, List.foldl_append]
    rfl
/-- what is put behind what was put -/
theorem put_put {S a b : List UInt8} {o : Nat} (h : o + a.length + b.length ≤ S.length) : put (put S o a) (o + a.length) b = put S o (a ++ b) := by
  have h1 : (S.take o).length = o := by rw [List.length_take]; omega
  have h2 : (S.take o ++ a).length = o + a.length := by rw [List.length_append, h1]
  unfold put
  rw [List.take_left' h2, show (S.take o ++ a ++ S.drop (o + a.length)).drop (o + a.length + b.length) = S.drop (o + (a ++ b).length) by
    rw [← List.drop_drop, List.drop_left' h2, List.drop_drop, List.length_append, Nat.add_assoc]]
  simp only [List.append_assoc]
/-- the sectors of bytes, from the sector o on -/
def chunks (f : List UInt8) (o m : Nat) : List (Nat × List UInt8) := (List.range m).map fun i => (o + i, sec f i)
theorem chunks_succ (f : List UInt8) (o m : Nat) : chunks f o (m + 1) = chunks f o m ++ [(o + m, sec f m)] := by simp [chunks, List.range_succ]
theorem chunks_in {f : List UInt8} {o m n : Nat} (hf : f.length = m * 64) (hn : o + m ≤ n) : ∀ p ∈ chunks f o m, p.1 < n ∧ p.2.length = 64 := by
  intro p hp
  simp only [chunks, List.mem_map, List.mem_range] at hp
  obtain ⟨i, hi, rfl⟩ := hp
  exact ⟨by show o + i < n; omega, sec_length hf hi⟩
theorem take_sec {f : List UInt8} {m i : Nat} (hf : f.length = m * 64) (hi : i < m) : f.take (64 * (i + 1)) = f.take (64 * i) ++ sec f i := by
  rw [sec, show 64 * (i + 1) = 64 * i + 64 by omega, List.take_add]
/-- all sectors of bytes put one by one are the bytes put -/
theorem puts_chunks {f : List UInt8} {m : Nat} (hf : f.length = m * 64) {S : List UInt8} {o : Nat} : ∀ k, k ≤ m → 64 * (o + k) ≤ S.length → (chunks f o k).foldl (fun S p => put S (64 * p.1) p.2) S = put S (64 * o) (f.take (64 * k))
  | 0, _, h => by simp [chunks, put]
  | k + 1, hk, h => by
    rw [chunks_succ, List.foldl_append, puts_chunks hf k (by omega) (by omega), take_sec hf (by omega)]
    have hl : (f.take (64 * k)).length = 64 * k := by rw [List.length_take]; omega
    have := put_put (S := S) (a := f.take (64 * k)) (b := sec f k) (o := 64 * o) (by rw [hl, sec_length hf (by omega)]; omega)
    rw [hl] at this
    rw [← this]
    show put _ (64 * (o + k)) _ = _
    rw [show 64 * (o + k) = 64 * o + 64 * k by omega]
/-- what is put behind a front, over zeros -/
theorem put_zeros {a f : List UInt8} {m : Nat} (h : f.length ≤ m) : put (a ++ List.replicate m 0) a.length f = a ++ f ++ List.replicate (m - f.length) 0 := by
  unfold put
  rw [List.take_left' rfl, List.drop_append, List.drop_eq_nil_of_le (by omega), List.nil_append, List.drop_replicate]
  congr 2
  omega
/-- what is put over as many bytes -/
theorem put_over {a f f' c : List UInt8} (h : f.length = f'.length) : put (a ++ f' ++ c) a.length f = a ++ f ++ c := by
  have e1 : (a ++ f' ++ c).take a.length = a := by rw [List.append_assoc, List.take_left' rfl]
  have e2 : (a ++ f' ++ c).drop (a.length + f.length) = c := List.drop_left' (by rw [List.length_append, h])
  unfold put
  rw [e1, e2]
theorem form_cut (x : UInt8) (gen n : Nat) (t : List UInt8) : ∃ c, sec (formX x gen n t) 0 = x :: c ∧ c.length = 63 ∧ ∃ r, ∀ y, formX y gen n t = y :: (c ++ r) := by
  have hl := form_length x gen n t
  have h1 := secs_pos (restB gen n t).length
  have e : ∀ y, formX y gen n t = y :: (formX 0 gen n t).tail := fun y => rfl
  have hl2 : (formX 0 gen n t).tail.length = 64 * manyOf gen n t - 1 := by rw [List.length_tail, form_length]
  refine ⟨(formX 0 gen n t).tail.take 63, ?_, ?_, (formX 0 gen n t).tail.drop 63, fun y => ?_⟩
  · rw [e x]; rfl
  · rw [List.length_take, hl2]; unfold manyOf; omega
  · rw [List.take_append_drop]; exact e y
end Go.Proofs.YtjekcaoonaniaaaGreat
