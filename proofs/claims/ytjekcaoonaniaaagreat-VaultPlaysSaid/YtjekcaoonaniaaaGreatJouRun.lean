/-
  A journal by definition (Jn): what Add and Flush make of it; a journal that was opened on a new device, and to which records were added (Run). It speaks of no program. No condition but what each lemma names.
-/
import Derived.Test.YtjekcaoonaniaaaGreatJouMath
namespace Go.Proofs.YtjekcaoonaniaaaGreat
set_option linter.unusedVariables false

/-- a journal: its device, its generation, how many records, the sector behind them, the sector behind the part, what isn't whole as yet, is it dead -/
structure Jn where
  d : Dv
  gen : Nat
  k : Nat
  next : Nat
  fin : Nat
  L : List (Nat × List UInt8)
  dead : Bool

structure Jn.Ok (J : Jn) : Prop where
  d : J.d.Ok
  gen : J.gen ≤ 1099511627776
  k : J.k ≤ 1000000
  next : J.next ≤ J.fin
  fin : J.fin ≤ J.d.n
  L : ∀ p ∈ J.L, p.1 < J.d.n ∧ p.2.length = 64
  l : J.L.length ≤ 100000

def Jn.died (J : Jn) (d : Dv) : Jn := { J with d := d, L := [], dead := true }
def Jn.form0 (J : Jn) (t : List UInt8) : List (Nat × List UInt8) := chunks (formX 0 J.gen J.k t) J.next (manyOf J.gen J.k t)
def Jn.more (J : Jn) (t : List UInt8) (d : Dv) : Jn :=
  { J with d := d, k := J.k + 1, next := J.next + manyOf J.gen J.k t, L := J.L ++ [(J.next, sec (formX 1 J.gen J.k t) 0)] }
def Jn.add (J : Jn) (t : List UInt8) : Nat × Jn :=
  if J.dead = true then (16, J)
  else if formE J.gen J.k t ≠ 0 then (formE J.gen J.k t, J)
  else if J.fin - J.next < manyOf J.gen J.k t then (6, J)
  else if (J.d.puts (J.form0 t)).1 = 0 then (0, J.more t (J.d.puts (J.form0 t)).2)
  else ((J.d.puts (J.form0 t)).1, J.died (J.d.puts (J.form0 t)).2)
def Jn.flush (J : Jn) : Nat × Jn :=
  if J.dead = true then (16, J)
  else if J.d.flushE ≠ 0 then (J.d.flushE, J.died J.d.flush)
  else if J.L = [] then (0, { J with d := J.d.flush })
  else if (J.d.flush.puts J.L).1 ≠ 0 then ((J.d.flush.puts J.L).1, J.died (J.d.flush.puts J.L).2)
  else if (J.d.flush.puts J.L).2.flushE ≠ 0 then ((J.d.flush.puts J.L).2.flushE, J.died (J.d.flush.puts J.L).2.flush)
  else (0, { J with d := (J.d.flush.puts J.L).2.flush, L := [] })

/-- the first sectors of forms in a row -/
def firsts (gen : Nat) : Nat → Nat → List (List UInt8) → List (Nat × List UInt8)
  | _, _, [] => []
  | k, o, t :: r => (o, sec (formX 1 gen k t) 0) :: firsts gen (k + 1) (o + manyOf gen k t) r
theorem firsts_snoc (gen : Nat) (t : List UInt8) : ∀ (k o : Nat) (ts : List (List UInt8)), firsts gen k o (ts ++ [t]) = firsts gen k o ts ++ [(o + secsUp gen k ts, sec (formX 1 gen (k + ts.length) t) 0)]
  | k, o, [] => by simp [firsts, secsUp]
  | k, o, u :: r => by
    simp only [List.cons_append, firsts, firsts_snoc gen t (k + 1) _ r, List.length_cons, secsUp]
    rw [show k + 1 + r.length = k + (r.length + 1) by omega, show o + manyOf gen k u + secsUp gen (k + 1) r = o + (manyOf gen k u + secsUp gen (k + 1) r) by omega]
theorem firsts_length (gen : Nat) : ∀ (k o : Nat) (ts : List (List UInt8)), (firsts gen k o ts).length = ts.length
  | _, _, [] => rfl
  | k, o, t :: r => by simp [firsts, firsts_length gen (k + 1) _ r]
theorem firsts_in (gen : Nat) : ∀ (k o : Nat) (ts : List (List UInt8)), ∀ p ∈ firsts gen k o ts, p.1 < o + secsUp gen k ts ∧ p.2.length = 64
  | _, _, [], _, hp => by cases hp
  | k, o, t :: r, p, hp => by
    have h1 := secs_pos (restB gen k t).length
    have h2 := secsUp_ge gen k (t :: r)
    simp only [firsts, List.mem_cons] at hp
    rcases hp with rfl | hp
    · refine ⟨by simp only [secsUp, manyOf]; omega, ?_⟩
      exact sec_length (n := manyOf gen k t) (by rw [form_length]; omega) h1
    · have := firsts_in gen (k + 1) _ r p hp
      refine ⟨?_, this.2⟩
      simp only [secsUp]
      omega
/-- the first sectors put again: the forms are whole -/
theorem puts_firsts (gen : Nat) (c : List UInt8) : ∀ (ts : List (List UInt8)) (k o : Nat) (A : List UInt8), A.length = 64 * o →
    (firsts gen k o ts).foldl (fun S p => put S (64 * p.1) p.2) (A ++ (formsX 0 gen k ts ++ c)) = A ++ (formsX 1 gen k ts ++ c)
  | [], _, _, _, _ => rfl
  | t :: r, k, o, A, hA => by
    obtain ⟨q, h1, h2, s, h3⟩ := form_cut 1 gen k t
    have e : put (A ++ (formsX 0 gen k (t :: r) ++ c)) (64 * o) (sec (formX 1 gen k t) 0) = (A ++ formX 1 gen k t) ++ (formsX 0 gen (k + 1) r ++ c) := by
      have := put_over (a := A) (f := 1 :: q) (f' := 0 :: q) (c := s ++ formsX 0 gen (k + 1) r ++ c) rfl
      rw [h1, ← hA]
      simp only [formsX, h3, List.cons_append, List.append_assoc] at this ⊢
      exact this
    simp only [firsts, List.foldl_cons]
    rw [e, puts_firsts gen c r (k + 1) _ _ (by rw [List.length_append, hA, form_length]; omega)]
    simp only [formsX, List.append_assoc]

/-- a journal of all of a new device, to which these records were added -/
structure Run (J : Jn) (n gen : Nat) (ts : List (List UInt8)) : Prop where
  ok : J.Ok
  up : J.d.Up
  dn : J.d.n = n
  jgen : J.gen = gen
  jk : J.k = ts.length
  next : J.next = secsUp gen 0 ts
  fin : J.fin = n
  jL : J.L = firsts gen 0 0 ts
  live : J.dead = false
  forms : ∀ (i : Nat) t, ts[i]? = some t → formE gen (i : Int) t = 0
  view : J.d.view = formsX 0 gen 0 ts ++ List.replicate (64 * (n - J.next)) 0
  few : J.d.L.length ≤ J.next
def Jn.first (n gen : Nat) : Jn := { d := Dv.new n, gen := gen, k := 0, next := 0, fin := n, L := [], dead := false }
theorem Run.new {n gen : Nat} (hn : n ≤ 4096) (hg : gen ≤ 1099511627776) : Run (Jn.first n gen) n gen [] :=
  ⟨⟨Dv.Ok.new hn, hg, Nat.zero_le _, Nat.zero_le _, Nat.le_refl _, fun p hp => (by cases hp), Nat.zero_le _⟩, ⟨by show (-1 : Int) < 0; omega, rfl⟩, rfl, rfl, rfl, rfl, rfl, rfl, rfl, fun i t h => by simp at h, by
    show List.replicate (n * 64) 0 = [] ++ List.replicate (64 * (n - 0)) 0
    rw [List.nil_append, Nat.sub_zero, Nat.mul_comm], Nat.zero_le _⟩
theorem Run.add {J : Jn} {n gen : Nat} {ts : List (List UInt8)} (h : Run J n gen ts) {t : List UInt8} (hf : formE gen ts.length t = 0) (hr : manyOf gen ts.length t ≤ n - J.next) (hts : ts.length < 100000) :
    ∃ J', J.add t = (0, J') ∧ Run J' n gen (ts ++ [t]) ∧ J'.next = J.next + manyOf gen ts.length t := by
  have hm := formE_nat hf
  have hfl := form_length 0 gen ts.length t
  have hnx : J.next + manyOf gen ts.length t ≤ n := by have := h.ok.next; have := h.fin; omega
  have hin : ∀ p ∈ J.form0 t, p.1 < J.d.n ∧ p.2.length = 64 := by
    unfold Jn.form0
    rw [h.jgen, h.jk, h.dn]
    exact chunks_in (by rw [hfl]; omega) hnx
  have hp := up_puts h.up hin
  have hcl : (J.form0 t).length = manyOf gen ts.length t := by unfold Jn.form0; rw [h.jgen, h.jk]; simp [chunks]
  refine ⟨J.more t { J.d with L := J.d.L ++ J.form0 t }, ?_, ?_, by show J.next + manyOf J.gen J.k t = _; rw [h.jgen, h.jk]⟩
  · unfold Jn.add
    rw [if_neg (by rw [h.live]; simp), h.jgen, h.jk, if_neg (by omega), h.fin, if_neg (by omega), hp, if_pos rfl]
  · have hsn := secsUp_snoc gen t 0 ts
    rw [Nat.zero_add] at hsn
    have hok2 : ({ J.d with L := J.d.L ++ J.form0 t } : Dv).Ok := by
      have := puts_ok (J.form0 t) h.ok.d
      rwa [hp] at this
    have hnext : (J.more t { J.d with L := J.d.L ++ J.form0 t }).next = secsUp gen 0 (ts ++ [t]) := by
      show J.next + manyOf J.gen J.k t = _
      rw [hsn, h.jgen, h.jk, h.next]
    have hLin : ∀ p ∈ (J.more t { J.d with L := J.d.L ++ J.form0 t }).L, p.1 < n ∧ p.2.length = 64 := by
      intro p hp
      simp only [Jn.more, List.mem_append, List.mem_singleton] at hp
      rcases hp with hp | rfl
      · have := h.ok.L p hp; rw [h.dn] at this; exact this
      · have := secs_pos (restB gen ts.length t).length
        refine ⟨by show J.next < n; unfold manyOf at hnx; omega, ?_⟩
        rw [h.jgen, h.jk]
        exact sec_length (n := manyOf gen ts.length t) (by rw [form_length]; omega) this
    refine ⟨⟨hok2, h.ok.gen, ?_, ?_, h.ok.fin, fun p hp => by show p.1 < J.d.n ∧ _; rw [h.dn]; exact hLin p hp, ?_⟩, h.up, h.dn, h.jgen, ?_, hnext, h.fin, ?_, h.live, ?_, ?_, ?_⟩
    · show J.k + 1 ≤ _; rw [h.jk]; omega
    · show J.next + manyOf J.gen J.k t ≤ J.fin
      rw [h.jgen, h.jk, h.fin]; exact hnx
    · show (J.L ++ [_]).length ≤ _
      rw [List.length_append, h.jL, firsts_length]; simp; omega
    · show J.k + 1 = _; rw [h.jk]; simp
    · show J.L ++ [_] = _
      rw [firsts_snoc, h.jL, h.jgen, h.jk, h.next, Nat.zero_add, Nat.zero_add]
    · intro i u hu
      rw [List.getElem?_append] at hu
      split at hu
      · exact h.forms i u hu
      · rename_i hi
        have e : i = ts.length := by
          have := (List.getElem?_eq_some_iff.1 hu).1
          simp at this; omega
        subst e
        simp at hu
        subst hu
        exact hf
    · show ({ J.d with L := J.d.L ++ J.form0 t } : Dv).view = _
      have hal := formsX_length 0 gen 0 ts
      have hvl := view_length h.ok.d
      rw [view_more _ _ (fun p hp => (hin p hp).2), hnext, hsn]
      have e := puts_chunks (f := formX 0 gen ts.length t) (m := manyOf gen ts.length t) (by rw [hfl]; omega) (S := J.d.view) (o := J.next) _ (Nat.le_refl _) (by rw [hvl, h.dn]; omega)
      have e2 : J.form0 t = chunks (formX 0 gen ts.length t) J.next (manyOf gen ts.length t) := by unfold Jn.form0; rw [h.jgen, h.jk]
      rw [e2, e, ← hfl, List.take_length, h.view, formsX_snoc, Nat.zero_add, h.next, ← hal, put_zeros (by rw [hfl]; have := h.next; omega), hfl]
      congr 2
      omega
    · show (J.d.L ++ J.form0 t).length ≤ J.next + manyOf J.gen J.k t
      rw [List.length_append, hcl, h.jgen, h.jk]
      have := h.few
      omega
theorem Run.full {J : Jn} {n gen : Nat} {ts : List (List UInt8)} (h : Run J n gen ts) {t : List UInt8} (hf : formE gen ts.length t = 0) (hr : ¬ manyOf gen ts.length t ≤ n - J.next) : J.add t = (6, J) := by
  unfold Jn.add
  rw [if_neg (by rw [h.live]; simp), h.jgen, h.jk, if_neg (by omega), h.fin, if_pos (by omega)]
theorem Run.flush {J : Jn} {n gen : Nat} {ts : List (List UInt8)} (h : Run J n gen ts) :
    ∃ J', J.flush = (0, J') ∧ J'.Ok ∧ J'.d.Up ∧ J'.d.n = n ∧ J'.d.L = [] ∧ J'.next = J.next ∧ J'.fin = n ∧ J'.d.view = formsX 1 gen 0 ts ++ List.replicate (64 * (n - J.next)) 0 := by
  obtain ⟨f1, f2⟩ := up_flush h.up
  have hview : ∀ d : Dv, ({ d with S := d.view, L := [] } : Dv).view = d.view := fun _ => rfl
  have hup : J.d.flush.Up := by rw [f2]; exact h.up
  have hn : J.d.flush.n = n := by rw [f2]; exact h.dn
  have hok := h.ok.d.flush
  by_cases hL : J.L = []
  · have hts : ts = [] := by
      have := firsts_length gen 0 0 ts
      rw [← h.jL, hL] at this
      exact List.eq_nil_of_length_eq_zero this.symm
    refine ⟨{ J with d := J.d.flush }, ?_, ⟨hok, h.ok.gen, h.ok.k, h.ok.next, by show J.fin ≤ J.d.flush.n; rw [hn, h.fin]; exact Nat.le_refl _, fun p hp => (by rw [show ({ J with d := J.d.flush } : Jn).L = J.L from rfl, hL] at hp; cases hp), h.ok.l⟩, hup, hn, by show J.d.flush.L = _; rw [f2], rfl, h.fin, ?_⟩
    · unfold Jn.flush
      rw [if_neg (by rw [h.live]; simp), if_neg (by rw [f1]; simp), if_pos hL]
    · show J.d.flush.view = _
      rw [f2, hview, h.view, hts]
      rfl
  · have hin : ∀ p ∈ J.L, p.1 < J.d.flush.n ∧ p.2.length = 64 := by rw [hn, ← h.dn]; exact h.ok.L
    have hp := up_puts hup hin
    have hup2 : ({ J.d.flush with L := J.d.flush.L ++ J.L } : Dv).Up := hup
    obtain ⟨g1, g2⟩ := up_flush hup2
    have hok2 := puts_ok J.L hok
    refine ⟨{ J with d := (J.d.flush.puts J.L).2.flush, L := [] }, ?_, ⟨hok2.flush, h.ok.gen, h.ok.k, h.ok.next, ?_, fun p hp => (by cases hp), Nat.zero_le _⟩, ?_, ?_, ?_, rfl, h.fin, ?_⟩
    · unfold Jn.flush
      rw [if_neg (by rw [h.live]; simp), if_neg (by rw [f1]; simp), if_neg hL, if_neg (by rw [hp]; simp), if_neg (by rw [hp, g1]; simp)]
    · show J.fin ≤ (J.d.flush.puts J.L).2.flush.n
      rw [hp, g2, h.fin]
      exact Nat.le_of_eq hn.symm
    · show (J.d.flush.puts J.L).2.flush.Up
      rw [hp, g2]
      exact hup
    · show (J.d.flush.puts J.L).2.flush.n = n
      rw [hp, g2]
      exact hn
    · show (J.d.flush.puts J.L).2.flush.L = []
      rw [hp, g2]
    · show (J.d.flush.puts J.L).2.flush.view = _
      rw [hp, g2, hview, view_more _ _ (fun p hp => (hin p hp).2), f2, hview, h.view, h.jL]
      have := puts_firsts gen (List.replicate (64 * (n - J.next)) 0) ts 0 0 [] rfl
      simpa using this
end Go.Proofs.YtjekcaoonaniaaaGreat
