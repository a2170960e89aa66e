/-
  A device, by definition, for the proofs on package sector: what is sure as one list of bytes, what waits as a list of writes. It speaks of no program. No condition but what each lemma names.
-/
import Derived.Test.YtjekcaoonaniaaaGreatWords
namespace Go.Proofs.YtjekcaoonaniaaaGreat
set_option linter.unusedVariables false

/-- a device: so many sectors, the sure bytes, the writes that wait, the fuse, is the power off -/
structure Dv where
  n : Nat
  S : List UInt8
  L : List (Nat × List UInt8)
  fuse : Int
  down : Bool

/-- the bytes bs laid over S from place o on -/
def put (S : List UInt8) (o : Nat) (bs : List UInt8) : List UInt8 := S.take o ++ bs ++ S.drop (o + bs.length)
/-- the bytes of sector i -/
def sec (S : List UInt8) (i : Nat) : List UInt8 := (S.drop (64 * i)).take 64
/-- how much of the k-th write comes -/
def kept (keeps : List Int) (k : Nat) : Nat := match keeps[k]? with
  | none => 64
  | some x => (min (max x 0) 64).toNat
/-- the writes come, from the k-th on -/
def settle (keeps : List Int) : Nat → List (Nat × List UInt8) → List UInt8 → List UInt8
  | _, [], S => S
  | k, p :: r, S => settle keeps (k + 1) r (put S (64 * p.1) (p.2.take (kept keeps k)))
/-- what sector i has: the last write that waits for it, or what is sure -/
def newest (L : List (Nat × List UInt8)) (S : List UInt8) (i : Nat) : List UInt8 := match L.reverse.find? (fun p => p.1 == i) with
  | none => sec S i
  | some p => p.2
/-- behind a write's or a flush's fuse -/
def Dv.burnt (d : Dv) : Dv := if 0 < d.fuse then { d with fuse := d.fuse - 1 } else if d.fuse = 0 then { d with down := true } else d
def Dv.settled (d : Dv) (keeps : List Int) : Dv := { d with S := settle keeps 0 d.L d.S, L := [] }
def Dv.new (n : Nat) : Dv := { n, S := List.replicate (n * 64) 0, L := [], fuse := -1, down := false }
/-- the error of a write, and the device behind it -/
def Dv.writeE (d : Dv) (i : Int) (bs : List UInt8) : Nat := if d.burnt.down = true then 16 else if 0 ≤ i ∧ i < d.n ∧ bs.length = 64 then 0 else 1
def Dv.write (d : Dv) (i : Int) (bs : List UInt8) : Dv := if d.burnt.down = true then d.burnt else if 0 ≤ i ∧ i < d.n ∧ bs.length = 64 then { d.burnt with L := d.L ++ [(i.toNat, bs)] } else d.burnt
def Dv.flushE (d : Dv) : Nat := if d.burnt.down = true then 16 else 0
def Dv.flush (d : Dv) : Dv := if d.burnt.down = true then d.burnt else d.burnt.settled []
def Dv.boot (d : Dv) (keeps : List Int) : Dv := { d.settled keeps with down := false, fuse := -1 }

/-- is there a sector i -/
def Dv.has (d : Dv) (i : Int) : Bool := decide (0 ≤ i ∧ i < d.n)
/-- a device as devices are -/
structure Dv.Ok (d : Dv) : Prop where
  n : d.n ≤ 4096
  S : d.S.length = d.n * 64
  L : ∀ p ∈ d.L, p.1 < d.n ∧ p.2.length = 64
  lo : -9223372036854775808 ≤ d.fuse
  hi : d.fuse ≤ 9223372036854775807

theorem put_length {S : List UInt8} {o : Nat} {bs : List UInt8} (h : o + bs.length ≤ S.length) : (put S o bs).length = S.length := by
  simp only [put, List.length_append, List.length_take, List.length_drop]; omega
theorem kept_le (keeps : List Int) (k : Nat) : kept keeps k ≤ 64 := by
  unfold kept
  split <;> omega
theorem settle_length (keeps : List Int) : ∀ (L : List (Nat × List UInt8)) (k : Nat) (S : List UInt8) (n : Nat), S.length = n * 64 → (∀ p ∈ L, p.1 < n ∧ p.2.length = 64) → (settle keeps k L S).length = n * 64
  | [], _, _, _, h, _ => h
  | p :: r, k, S, n, h, hL => by
    have hp := hL p (.head _)
    refine settle_length keeps r _ _ n ?_ fun q hq => hL q (.tail _ hq)
    rw [put_length, h]
    have := kept_le keeps k
    rw [List.length_take, h]
    omega
theorem settle_snoc (keeps : List Int) (p : Nat × List UInt8) : ∀ (L : List (Nat × List UInt8)) (k : Nat) (S : List UInt8), settle keeps k (L ++ [p]) S = put (settle keeps k L S) (64 * p.1) (p.2.take (kept keeps (k + L.length)))
  | [], _, _ => rfl
  | q :: r, k, S => by
    have := settle_snoc keeps p r (k + 1) (put S (64 * q.1) (q.2.take (kept keeps k)))
    simp only [List.cons_append, settle, this, List.length_cons]
    rw [show k + 1 + r.length = k + (r.length + 1) by omega]

theorem Dv.Ok.burnt {d : Dv} (h : d.Ok) : d.burnt.Ok := by
  unfold Dv.burnt
  have := h.lo; have := h.hi
  split
  · exact ⟨h.n, h.S, h.L, by show _ ≤ d.fuse - 1; omega, by show d.fuse - 1 ≤ _; omega⟩
  · split
    · exact ⟨h.n, h.S, h.L, h.lo, h.hi⟩
    · exact h
theorem Dv.Ok.settled {d : Dv} (h : d.Ok) (keeps : List Int) : (d.settled keeps).Ok :=
  ⟨h.n, settle_length keeps d.L 0 d.S d.n h.S h.L, fun p hp => (by cases hp), h.lo, h.hi⟩
theorem Dv.Ok.boot {d : Dv} (h : d.Ok) (keeps : List Int) : (d.boot keeps).Ok :=
  ⟨h.n, (h.settled keeps).S, fun p hp => (by cases hp), by show (-9223372036854775808 : Int) ≤ -1; omega, by show (-1 : Int) ≤ _; omega⟩
theorem Dv.Ok.flush {d : Dv} (h : d.Ok) : d.flush.Ok := by
  unfold Dv.flush
  split
  · exact h.burnt
  · exact h.burnt.settled []
theorem Dv.burnt_n (d : Dv) : d.burnt.n = d.n := by unfold Dv.burnt; split <;> (try split) <;> rfl
theorem Dv.burnt_L (d : Dv) : d.burnt.L = d.L := by unfold Dv.burnt; split <;> (try split) <;> rfl
theorem Dv.burnt_S (d : Dv) : d.burnt.S = d.S := by unfold Dv.burnt; split <;> (try split) <;> rfl
theorem Dv.Ok.write {d : Dv} (h : d.Ok) (i : Int) (bs : List UInt8) : (d.write i bs).Ok := by
  unfold Dv.write
  split
  · exact h.burnt
  · split
    · rename_i hi
      refine ⟨h.burnt.n, h.burnt.S, fun p hp => ?_, h.burnt.lo, h.burnt.hi⟩
      simp only [List.mem_append, List.mem_singleton] at hp
      show p.1 < d.burnt.n ∧ _
      rw [Dv.burnt_n]
      rcases hp with hp | rfl
      · exact h.L p hp
      · exact ⟨by show i.toNat < _; omega, hi.2.2⟩
    · exact h.burnt
theorem Dv.Ok.new {n : Nat} (h : n ≤ 4096) : (Dv.new n).Ok := ⟨h, by simp [Dv.new], fun p hp => (by cases hp), by show (-9223372036854775808 : Int) ≤ -1; omega, by show (-1 : Int) ≤ _; omega⟩
theorem sec_length {S : List UInt8} {i n : Nat} (h : S.length = n * 64) (hi : i < n) : (sec S i).length = 64 := by
  rw [sec, List.length_take, List.length_drop, h]; omega
theorem newest_length {L : List (Nat × List UInt8)} {S : List UInt8} {i n : Nat} (h : S.length = n * 64) (hL : ∀ p ∈ L, p.1 < n ∧ p.2.length = 64) (hi : i < n) : (newest L S i).length = 64 := by
  unfold newest
  split
  · exact sec_length h hi
  · rename_i p hp
    exact (hL p (by simpa using List.mem_of_find?_eq_some hp)).2

/-- the cells of the writes that wait -/
def wcell (p : Nat × List UInt8) : List Value := .int .i64 (p.1 : Int) :: bytesV p.2
def wcells (L : List (Nat × List UInt8)) : List Value := L.flatMap wcell
theorem wcells_length : ∀ {L : List (Nat × List UInt8)}, (∀ p ∈ L, p.2.length = 64) → (wcells L).length = L.length * 65
  | [], _ => rfl
  | p :: r, h => by
    have := wcells_length (L := r) fun q hq => h q (.tail _ hq)
    have hp := h p (.head _)
    simp only [wcells, List.flatMap_cons, List.length_append, wcell, List.length_cons, bytes_length] at this ⊢
    omega
theorem wcells_snoc (L : List (Nat × List UInt8)) (p : Nat × List UInt8) : wcells (L ++ [p]) = wcells L ++ wcell p := by simp [wcells]
/-- the cells of the k-th write stand from 65 k on -/
theorem wcells_at : ∀ {L : List (Nat × List UInt8)} {k : Nat} {p : Nat × List UInt8}, (∀ p ∈ L, p.2.length = 64) → L[k]? = some p → ∀ j v, (wcell p)[j]? = some v → (wcells L)[65 * k + j]? = some v
  | q :: r, 0, p, h, hk, j, v, hv => by
    have hp := h q (.head _)
    simp at hk
    subst hk
    have hj : j < (wcell q).length := (List.getElem?_eq_some_iff.1 hv).1
    rw [wcells, List.flatMap_cons, Nat.mul_zero, Nat.zero_add, List.getElem?_append_left hj]
    exact hv
  | q :: r, k + 1, p, h, hk, j, v, hv => by
    have hp := h q (.head _)
    simp at hk
    have ih := wcells_at (L := r) (k := k) (fun q hq => h q (.tail _ hq)) hk j v hv
    have hq : (wcell q).length = 65 := by simp [wcell, bytes_length, hp]
    rw [wcells, List.flatMap_cons, List.getElem?_append_right (by omega), hq, show 65 * (k + 1) + j - 65 = 65 * k + j by omega]
    exact ih
theorem wcell_one (p : Nat × List UInt8) : ∀ u ∈ wcell p, u.oneCell' = true := by
  intro u hu
  simp only [wcell, List.mem_cons] at hu
  rcases hu with rfl | hu
  · rfl
  · exact bytes_one _ u hu
theorem sec_at {S : List UInt8} {i j : Nat} {x : UInt8} (h : (sec S i)[j]? = some x) : S[64 * i + j]? = some x := by
  rw [sec, List.getElem?_take] at h
  split at h
  · rwa [List.getElem?_drop] at h
  · cases h
theorem sec_put_same {S : List UInt8} {i n : Nat} {bs : List UInt8} (h : S.length = n * 64) (hi : i < n) (hb : bs.length ≤ 64) : sec (put S (64 * i) bs) i = bs ++ (sec S i).drop bs.length := by
  have h1 : (S.take (64 * i)).length = 64 * i := by rw [List.length_take, h]; omega
  unfold sec put
  rw [List.append_assoc, List.drop_left' h1, List.take_append, List.take_of_length_le (by omega), List.drop_take, List.drop_drop]
theorem sec_put_other {S : List UInt8} {i j n : Nat} {bs : List UInt8} (h : S.length = n * 64) (hi : i < n) (hj : j < n) (hb : bs.length ≤ 64) (hne : j ≠ i) : sec (put S (64 * j) bs) i = sec S i := by
  have h1 : (S.take (64 * j)).length = 64 * j := by rw [List.length_take, h]; omega
  apply List.ext_getElem?
  intro k
  unfold sec put
  simp only [List.getElem?_take, List.getElem?_drop]
  by_cases hk : k < 64
  · rw [if_pos hk, if_pos hk, List.append_assoc]
    by_cases hlt : i < j
    · rw [List.getElem?_append_left (by rw [h1]; omega), List.getElem?_take, if_pos (by omega)]
    · rw [List.getElem?_append_right (by rw [h1]; omega), List.getElem?_append_right (by rw [h1]; omega), List.getElem?_drop, h1]
      congr 1
      omega
  · rw [if_neg hk, if_neg hk]
theorem sec_new {n i : Nat} (hi : i < n) : sec (Dv.new n).S i = List.replicate 64 0 := by
  simp only [sec, Dv.new, List.drop_replicate, List.take_replicate]
  rw [Nat.min_eq_left (by omega)]
/-- what one sector has behind the writes that come, if none of them is for it -/
theorem settle_other {keeps : List Int} {i n : Nat} : ∀ {L : List (Nat × List UInt8)} {k : Nat} {S : List UInt8}, S.length = n * 64 → (∀ p ∈ L, p.1 < n ∧ p.2.length = 64) → i < n → (∀ p ∈ L, p.1 ≠ i) → sec (settle keeps k L S) i = sec S i
  | [], _, _, _, _, _, _ => rfl
  | p :: r, k, S, h, hL, hi, hn => by
    have hp := hL p (.head _)
    have hk := kept_le keeps k
    have hb : (p.2.take (kept keeps k)).length ≤ 64 := by rw [List.length_take]; omega
    rw [settle, settle_other (by rw [put_length, h]; rw [h]; omega) (fun q hq => hL q (.tail _ hq)) hi fun q hq => hn q (.tail _ hq)]
    exact sec_put_other h hi hp.1 hb (hn p (.head _))
theorem newest_other {L : List (Nat × List UInt8)} {S : List UInt8} {i : Nat} (hn : ∀ p ∈ L, p.1 ≠ i) : newest L S i = sec S i := by
  unfold newest
  rw [List.find?_eq_none.2]
  intro p hp
  simpa using hn p (by simpa using hp)
/-- a sector of one byte -/
def full (c : UInt8) : List UInt8 := List.replicate 64 c
theorem full_length (c : UInt8) : (full c).length = 64 := by simp [full]
end Go.Proofs.YtjekcaoonaniaaaGreat
