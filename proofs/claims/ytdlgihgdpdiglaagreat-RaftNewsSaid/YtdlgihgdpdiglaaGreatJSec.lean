/-
  Joined: SecMath, SecD, SecS, SecB, SecN, SecW. Conditions: each theorem's own.
-/
import Derived.Test.YtdlgihgdpdiglaaGreatJWords
import Derived.Test.YtdlgihgdpdiglaaGreatRows
import Derived.Deep.MidRow
import Derived.Deep.WholeRow
import Derived.OwnWalk
import Derived.WalkLawsBesides
import Derived.WalkSpells
import Derived.Laws.CopyOwn
import Derived.StillTailTactics
import Derived.RangeFuncNested
import Derived.RangeFuncBound
import Derived.RangeFuncCalls
import Derived.RangeFuncLeaves
import Derived.Shelf.Abstract
import Derived.Shelf.RegionOpen
import Derived.OwnWalkIn
import Derived.TacticsInMore
import Derived.LoopNIn
import Derived.LoopIn
import Derived.Deep.RegionHeld3
import Derived.Deep.AppendLies
import Derived.Deep.RegionLaw

section
namespace Go.Proofs.YtdlgihgdpdiglaaGreat
set_option linter.unusedVariables false

/-- a device: so many sectors, the sure bytes, the writes that wait, the fuse, is the power off -/
structure Dv where
  n : Nat
  S : List UInt8
  L : List (Nat × List UInt8)
  fuse : Int
  down : Bool

/-- the bytes bs laid over S from place o on -/
def put (S : List UInt8) (o : Nat) (bs : List UInt8) : List UInt8 := S.take o ++ bs ++ S.drop (o + bs.length)
/-- the bytes of sector i -/
def sec (S : List UInt8) (i : Nat) : List UInt8 := (S.drop (64 * i)).take 64
/-- how much of the k-th write comes -/
def kept (keeps : List Int) (k : Nat) : Nat := match keeps[k]? with
  | none => 64
  | some x => (min (max x 0) 64).toNat
/-- the writes come, from the k-th on -/
def settle (keeps : List Int) : Nat → List (Nat × List UInt8) → List UInt8 → List UInt8
  | _, [], S => S
  | k, p :: r, S => settle keeps (k + 1) r (put S (64 * p.1) (p.2.take (kept keeps k)))
/-- what sector i has: the last write that waits for it, or what is sure -/
def newest (L : List (Nat × List UInt8)) (S : List UInt8) (i : Nat) : List UInt8 := match L.reverse.find? (fun p => p.1 == i) with
  | none => sec S i
  | some p => p.2
/-- behind a write's or a flush's fuse -/
def Dv.burnt (d : Dv) : Dv := if 0 < d.fuse then { d with fuse := d.fuse - 1 } else if d.fuse = 0 then { d with down := true } else d
def Dv.settled (d : Dv) (keeps : List Int) : Dv := { d with S := settle keeps 0 d.L d.S, L := [] }
def Dv.new (n : Nat) : Dv := { n, S := List.replicate (n * 64) 0, L := [], fuse := -1, down := false }
/-- the error of a write, and the device behind it -/
def Dv.writeE (d : Dv) (i : Int) (bs : List UInt8) : Nat := if d.burnt.down = true then 16 else if 0 ≤ i ∧ i < d.n ∧ bs.length = 64 then 0 else 1
def Dv.write (d : Dv) (i : Int) (bs : List UInt8) : Dv := if d.burnt.down = true then d.burnt else if 0 ≤ i ∧ i < d.n ∧ bs.length = 64 then { d.burnt with L := d.L ++ [(i.toNat, bs)] } else d.burnt
def Dv.flushE (d : Dv) : Nat := if d.burnt.down = true then 16 else 0
def Dv.flush (d : Dv) : Dv := if d.burnt.down = true then d.burnt else d.burnt.settled []
def Dv.boot (d : Dv) (keeps : List Int) : Dv := { d.settled keeps with down := false, fuse := -1 }

/-- is there a sector i -/
def Dv.has (d : Dv) (i : Int) : Bool := decide (0 ≤ i ∧ i < d.n)
/-- a device as devices are -/
structure Dv.Ok (d : Dv) : Prop where
  n : d.n ≤ 4096
  S : d.S.length = d.n * 64
  L : ∀ p ∈ d.L, p.1 < d.n ∧ p.2.length = 64
  lo : -9223372036854775808 ≤ d.fuse
  hi : d.fuse ≤ 9223372036854775807

theorem put_length {S : List UInt8} {o : Nat} {bs : List UInt8} (h : o + bs.length ≤ S.length) : (put S o bs).length = S.length := by
  simp only [put, List.length_append, List.length_take, List.length_drop]; omega
theorem kept_le (keeps : List Int) (k : Nat) : kept keeps k ≤ 64 := by
  unfold kept
  split <;> omega
theorem settle_length (keeps : List Int) : ∀ (L : List (Nat × List UInt8)) (k : Nat) (S : List UInt8) (n : Nat), S.length = n * 64 → (∀ p ∈ L, p.1 < n ∧ p.2.length = 64) → (settle keeps k L S).length = n * 64
  | [], _, _, _, h, _ => h
  | p :: r, k, S, n, h, hL => by
    have hp := hL p (.head _)
    refine settle_length keeps r _ _ n ?_ fun q hq => hL q (.tail _ hq)
    rw [put_length, h]
    have := kept_le keeps k
    rw [List.length_take, h]
    omega
theorem settle_snoc (keeps : List Int) (p : Nat × List UInt8) : ∀ (L : List (Nat × List UInt8)) (k : Nat) (S : List UInt8), settle keeps k (L ++ [p]) S = put (settle keeps k L S) (64 * p.1) (p.2.take (kept keeps (k + L.length)))
  | [], _, _ => rfl
  | q :: r, k, S => by
    have := settle_snoc keeps p r (k + 1) (put S (64 * q.1) (q.2.take (kept keeps k)))
    simp only [List.cons_append, settle, this, List.length_cons]
    rw [show k + 1 + r.length = k + (r.length + 1) by omega]

theorem Dv.Ok.burnt {d : Dv} (h : d.Ok) : d.burnt.Ok := by
  unfold Dv.burnt
  have := h.lo; have := h.hi
  split
  · exact ⟨h.n, h.S, h.L, by show _ ≤ d.fuse - 1; omega, by show d.fuse - 1 ≤ _; omega⟩
  · split
    · exact ⟨h.n, h.S, h.L, h.lo, h.hi⟩
    · exact h
theorem Dv.Ok.settled {d : Dv} (h : d.Ok) (keeps : List Int) : (d.settled keeps).Ok :=
  ⟨h.n, settle_length keeps d.L 0 d.S d.n h.S h.L, fun p hp => (by cases hp), h.lo, h.hi⟩
theorem Dv.Ok.boot {d : Dv} (h : d.Ok) (keeps : List Int) : (d.boot keeps).Ok :=
  ⟨h.n, (h.settled keeps).S, fun p hp => (by cases hp), by show (-9223372036854775808 : Int) ≤ -1; omega, by show (-1 : Int) ≤ _; omega⟩
theorem Dv.Ok.flush {d : Dv} (h : d.Ok) : d.flush.Ok := by
  unfold Dv.flush
  split
  · exact h.burnt
  · exact h.burnt.settled []
theorem Dv.burnt_n (d : Dv) : d.burnt.n = d.n := by unfold Dv.burnt; split <;> (try split) <;> rfl
theorem Dv.burnt_L (d : Dv) : d.burnt.L = d.L := by unfold Dv.burnt; split <;> (try split) <;> rfl
theorem Dv.burnt_S (d : Dv) : d.burnt.S = d.S := by unfold Dv.burnt; split <;> (try split) <;> rfl
theorem Dv.Ok.write {d : Dv} (h : d.Ok) (i : Int) (bs : List UInt8) : (d.write i bs).Ok := by
  unfold Dv.write
  split
  · exact h.burnt
  · split
    · rename_i hi
      refine ⟨h.burnt.n, h.burnt.S, fun p hp => ?_, h.burnt.lo, h.burnt.hi⟩
      simp only [List.mem_append, List.mem_singleton] at hp
      show p.1 < d.burnt.n ∧ _
      rw [Dv.burnt_n]
      rcases hp with hp | rfl
      · exact h.L p hp
      · exact ⟨by show i.toNat < _; omega, hi.2.2⟩
    · exact h.burnt
theorem Dv.Ok.new {n : Nat} (h : n ≤ 4096) : (Dv.new n).Ok := ⟨h, by simp [Dv.new], fun p hp => (by cases hp), by show (-9223372036854775808 : Int) ≤ -1; omega, by show (-1 : Int) ≤ _; omega⟩
theorem sec_length {S : List UInt8} {i n : Nat} (h : S.length = n * 64) (hi : i < n) : (sec S i).length = 64 := by
  rw [sec, List.length_take, List.length_drop, h]; omega
theorem newest_length {L : List (Nat × List UInt8)} {S : List UInt8} {i n : Nat} (h : S.length = n * 64) (hL : ∀ p ∈ L, p.1 < n ∧ p.2.length = 64) (hi : i < n) : (newest L S i).length = 64 := by
  unfold newest
  split
  · exact sec_length h hi
  · rename_i p hp
    exact (hL p (by simpa using List.mem_of_find?_eq_some hp)).2

/-- the cells of the writes that wait -/
def wcell (p : Nat × List UInt8) : List Value := .int .i64 (p.1 : Int) :: bytesV p.2
def wcells (L : List (Nat × List UInt8)) : List Value := L.flatMap wcell
theorem wcells_length : ∀ {L : List (Nat × List UInt8)}, (∀ p ∈ L, p.2.length = 64) → (wcells L).length = L.length * 65
  | [], _ => rfl
  | p :: r, h => by
    have := wcells_length (L := r) fun q hq => h q (.tail _ hq)
    have hp := h p (.head _)
    simp only [wcells, List.flatMap_cons, List.length_append, wcell, List.length_cons, bytes_length] at this ⊢
    omega
theorem wcells_snoc (L : List (Nat × List UInt8)) (p : Nat × List UInt8) : wcells (L ++ [p]) = wcells L ++ wcell p := by simp [wcells]
/-- the cells of the k-th write stand from 65 k on -/
theorem wcells_at : ∀ {L : List (Nat × List UInt8)} {k : Nat} {p : Nat × List UInt8}, (∀ p ∈ L, p.2.length = 64) → L[k]? = some p → ∀ j v, (wcell p)[j]? = some v → (wcells L)[65 * k + j]? = some v
  | q :: r, 0, p, h, hk, j, v, hv => by
    have hp := h q (.head _)
    simp at hk
    subst hk
    have hj : j < (wcell q).length := (List.getElem?_eq_some_iff.1 hv).1
    rw [wcells, List.flatMap_cons, Nat.mul_zero, Nat.zero_add, List.getElem?_append_left hj]
    exact hv
  | q :: r, k + 1, p, h, hk, j, v, hv => by
    have hp := h q (.head _)
    simp at hk
    have ih := wcells_at (L := r) (k := k) (fun q hq => h q (.tail _ hq)) hk j v hv
    have hq : (wcell q).length = 65 := by simp [wcell, bytes_length, hp]
    rw [wcells, List.flatMap_cons, List.getElem?_append_right (by omega), hq, show 65 * (k + 1) + j - 65 = 65 * k + j by omega]
    exact ih
theorem wcell_one (p : Nat × List UInt8) : ∀ u ∈ wcell p, u.oneCell' = true := by
  intro u hu
  simp only [wcell, List.mem_cons] at hu
  rcases hu with rfl | hu
  · rfl
  · exact bytes_one _ u hu
theorem sec_at {S : List UInt8} {i j : Nat} {x : UInt8} (h : (sec S i)[j]? = some x) : S[64 * i + j]? = some x := by
  rw [sec, List.getElem?_take] at h
  split at h
  · rwa [List.getElem?_drop] at h
  · cases h
theorem sec_put_same {S : List UInt8} {i n : Nat} {bs : List UInt8} (h : S.length = n * 64) (hi : i < n) (hb : bs.length ≤ 64) : sec (put S (64 * i) bs) i = bs ++ (sec S i).drop bs.length := by
  have h1 : (S.take (64 * i)).length = 64 * i := by rw [List.length_take, h]; omega
  unfold sec put
  rw [List.append_assoc, List.drop_left' h1, List.take_append, List.take_of_length_le (by omega), List.drop_take, List.drop_drop]
theorem sec_put_other {S : List UInt8} {i j n : Nat} {bs : List UInt8} (h : S.length = n * 64) (hi : i < n) (hj : j < n) (hb : bs.length ≤ 64) (hne : j ≠ i) : sec (put S (64 * j) bs) i = sec S i := by
  have h1 : (S.take (64 * j)).length = 64 * j := by rw [List.length_take, h]; omega
  apply List.ext_getElem?
  intro k
  unfold sec put
  simp only [List.getElem?_take, List.getElem?_drop]
  by_cases hk : k < 64
  · rw [if_pos hk, if_pos hk, List.append_assoc]
    by_cases hlt : i < j
    · rw [List.getElem?_append_left (by rw [h1]; omega), List.getElem?_take, if_pos (by omega)]
    · rw [List.getElem?_append_right (by rw [h1]; omega), List.getElem?_append_right (by rw [h1]; omega), List.getElem?_drop, h1]
      congr 1
      omega
  · rw [if_neg hk, if_neg hk]
theorem sec_new {n i : Nat} (hi : i < n) : sec (Dv.new n).S i = List.replicate 64 0 := by
  simp only [sec, Dv.new, List.drop_replicate, List.take_replicate]
  rw [Nat.min_eq_left (by omega)]
/-- what one sector has behind the writes that come, if none of them is for it -/
theorem settle_other {keeps : List Int} {i n : Nat} : ∀ {L : List (Nat × List UInt8)} {k : Nat} {S : List UInt8}, S.length = n * 64 → (∀ p ∈ L, p.1 < n ∧ p.2.length = 64) → i < n → (∀ p ∈ L, p.1 ≠ i) → sec (settle keeps k L S) i = sec S i
  | [], _, _, _, _, _, _ => rfl
  | p :: r, k, S, h, hL, hi, hn => by
    have hp := hL p (.head _)
    have hk := kept_le keeps k
    have hb : (p.2.take (kept keeps k)).length ≤ 64 := by rw [List.length_take]; omega
    rw [settle, settle_other (by rw [put_length, h]; rw [h]; omega) (fun q hq => hL q (.tail _ hq)) hi fun q hq => hn q (.tail _ hq)]
    exact sec_put_other h hi hp.1 hb (hn p (.head _))
theorem newest_other {L : List (Nat × List UInt8)} {S : List UInt8} {i : Nat} (hn : ∀ p ∈ L, p.1 ≠ i) : newest L S i = sec S i := by
  unfold newest
  rw [List.find?_eq_none.2]
  intro p hp
  simpa using hn p (by simpa using hp)
/-- a sector of one byte -/
def full (c : UInt8) : List UInt8 := List.replicate 64 c
theorem full_length (c : UInt8) : (full c).length = 64 := by simp [full]
end Go.Proofs.YtdlgihgdpdiglaaGreat
end

section
namespace Go.Proofs.YtdlgihgdpdiglaaGreat
open Go.ChangeShapes Go.WideShapes Go.ChangeAt Go.RowKit
set_option linter.unusedVariables false

/-- the array's zero value: behind a name, so that no walk opens it -/
def za : Array Value := Array.replicate 64 (.int .u8 0)
def z64 : Value := .agg za
theorem arr_info : (Tryz.prog.info? 184).map (fun i => (i.zero, i.size, i.bytes)) = some (some z64, 64, 64) := by kernel_rfl
theorem arr_size : (Tryz.prog.info? 184).map (·.size) = some 64 := by kernel_rfl
theorem wr_size : (Tryz.prog.info? 218).map (·.size) = some 65 := by kernel_rfl
def zw : Array Value := (#[.int .i64 0] : Array Value) ++ Array.replicate 64 (.int .u8 0)
def z65 : Value := .agg zw
theorem wr_info : (Tryz.prog.info? 218).map (fun i => (i.zero, i.size, i.bytes)) = some (some z65, 65, 72) := by kernel_rfl
theorem zw_run (w : World) : (zeroValue 218).run Tryz.prog w = .ok (.agg zw) w := (zero_of_info (n := 65) (v := z65) (by kernel_rfl)).1 w
theorem zw_size : zw.size = 65 := by simp [zw]
theorem arr_und : Tryz.prog.underlying 184 = some (.array 64 5) := by kernel_rfl
/-- the load of a whole array: behind a name -/
def ldArr (p : Value) : Sem Value := Instr.loadAt 184 p
theorem ldArr_eq (p : Value) : Instr.loadAt 184 p = ldArr p := rfl
theorem ldArr_run {w : World} {b o : Nat} {bs : List UInt8} (h : w.rangeAt b o (bytesV bs)) (h64 : bs.length = 64) : (ldArr (.pointer (some ⟨b, o, none⟩))).run Tryz.prog w = .ok (.agg (bytesV bs).toArray) w :=
  run_loadAt_mid w b o _ _ _ h arr_und rfl (by rw [arr_size, bytes_length, h64])
/-- a whole array stored: behind a name -/
def stArr (p v : Value) : Sem Unit := Instr.storeAt 184 p v
theorem stArr_eq (p v : Value) : Instr.storeAt 184 p v = stArr p v := rfl
theorem stArr_run {w : World} {b : Nat} {cs cs' : Array Value} (h : w.heap[b]? = some (.cells cs 184 (0, 0))) (h64 : cs.size = 64) (h64' : cs'.size = 64) (h1 : cs'.all (·.oneCell') = true) :
    (stArr (.pointer (some ⟨b, 0, none⟩)) (.agg cs')).run Tryz.prog w = .ok () (w.setRow b cs') := by
  unfold stArr
  simp only [Instr.storeAt, Instr.sureAddr, Sem.run_bind, Sem.run_pure, Result.andThen_ok]
  exact run_storeVar_row (P := Tryz.prog) w b _ _ cs cs' h (by rw [arr_size, h64']) (by omega) h1
theorem za_run (w : World) : (zeroValue 184).run Tryz.prog w = .ok (.agg za) w := (zero_of_info (n := 64) (v := z64) (by kernel_rfl)).1 w
theorem za_size : za.size = 64 := by simp [za]

/-- a device at g, its sure bytes in the block s, its writes in a row r of its own -/
def IsD (w : World) (B g s : Nat) (r : Option Nat) (d : Dv) : Prop :=
  d.Ok ∧ B ≤ g ∧ B ≤ s ∧ g ≠ s ∧ r ≠ some g ∧ r ≠ some s ∧ w.heap[s]? = some (.cells (bytesV d.S).toArray 184 (0, 0)) ∧
  ∃ A c, w.heap[g]? = some (.cells #[.slice (some ⟨s, 0, none⟩) d.n d.n, .slice A d.L.length c, .int .i64 d.fuse, .bool d.down] 79 (0, 0)) ∧
    w.ownsRow B 218 65 (.slice A d.L.length c) d.L.length (wcells d.L) ∧ (Value.slice A d.L.length c).ownBlock = r
/-- only the device, its sure bytes and its row may have turned; its row is the old one, or new -/
def MovedD (B g s : Nat) (r : Option Nat) (d : Dv) (w w' : World) : Prop :=
  ∃ r', IsD w' B g s r' d ∧ (∀ k, r' = some k → r = some k ∨ w.heap.size ≤ k) ∧ Turned (fun k => k = g ∨ k = s ∨ r = some k) w w'

theorem own65_turned {p : Nat → Prop} {w w' : World} {base : Nat} {e : TypeId} {v : Value} {n z : Nat} {xs : List Value} (h : Turned p w w') (ho : w.ownsRow base e z v n xs) (hn : ∀ k, v.ownBlock = some k → ¬ p k) : w'.ownsRow base e z v n xs := by
  refine ⟨ho.1, ?_⟩
  rcases ho.2 with h2 | ⟨g, cap, cur, rfl, hg, hh, r⟩
  · exact .inl h2
  · exact .inr ⟨g, cap, cur, rfl, hg, h.heap hh (hn g rfl), r⟩
theorem IsD.ok {w : World} {B g s : Nat} {r : Option Nat} {d : Dv} (h : IsD w B g s r d) : d.Ok := h.1
theorem IsD.lt {w : World} {B g s : Nat} {r : Option Nat} {d : Dv} (h : IsD w B g s r d) : g < w.heap.size ∧ s < w.heap.size ∧ B ≤ g ∧ B ≤ s ∧ ∀ k, r = some k → B ≤ k ∧ k < w.heap.size := by
  obtain ⟨h1, h2, h3, h4, h5, h6, h7, A, c, h8, h9, h10⟩ := h
  subst h10
  exact ⟨(Array.getElem?_eq_some_iff.1 h8).1, (Array.getElem?_eq_some_iff.1 h7).1, h2, h3, fun k hk => h9.lt k hk⟩
theorem IsD.turned {p : Nat → Prop} {w w' : World} {B g s : Nat} {r : Option Nat} {d : Dv} (h : IsD w B g s r d) (ht : Turned p w w') (hg : ¬ p g) (hs : ¬ p s) (hr : ∀ k, r = some k → ¬ p k) : IsD w' B g s r d := by
  obtain ⟨h1, h2, h3, h4, h5, h6, h7, A, c, h8, h9, h10⟩ := h
  subst h10
  exact ⟨h1, h2, h3, h4, h5, h6, ht.heap h7 hs, A, c, ht.heap h8 hg, own65_turned ht h9 hr, rfl⟩
theorem IsD.below {w w' : World} {B g s : Nat} {r : Option Nat} {d : Dv} (h : IsD w B g s r d) (hb : Below w.heap.size w w') : IsD w' B g s r d :=
  h.turned (Turned.of_below hb (p := fun _ => False)) id id (fun _ _ => id)
theorem MovedD.refl {w : World} {B g s : Nat} {r : Option Nat} {d : Dv} (h : IsD w B g s r d) : MovedD B g s r d w w := ⟨r, h, fun k hk => .inl hk, .refl _ _⟩
theorem MovedD.step {w w1 w2 : World} {B g s : Nat} {r r1 : Option Nat} {d : Dv} (h2 : ∀ k, r1 = some k → r = some k ∨ w.heap.size ≤ k) (h3 : Turned (fun k => k = g ∨ k = s ∨ r = some k) w w1) (k : MovedD B g s r1 d w1 w2) : MovedD B g s r d w w2 := by
  obtain ⟨r2, k1, k2, k3⟩ := k
  refine ⟨r2, k1, fun i hi => ?_, h3.trans k3 (fun _ e => e) fun i hi e => ?_⟩
  · rcases k2 i hi with e | e
    · exact h2 i e
    · exact .inr (Nat.le_trans h3.size e)
  · rcases e with e | e | e
    · exact .inl e
    · exact .inr (.inl e)
    · rcases h2 i e with e | e
      · exact .inr (.inr e)
      · omega
theorem MovedD.trans {w w1 w2 : World} {B g s : Nat} {r : Option Nat} {d d2 : Dv} (h : MovedD B g s r d w w1) (k : ∀ r1, IsD w1 B g s r1 d → MovedD B g s r1 d2 w1 w2) : MovedD B g s r d2 w w2 := by
  obtain ⟨r1, h1, h2, h3⟩ := h
  exact MovedD.step h2 h3 (k r1 h1)
theorem MovedD.below {w w' : World} {B g s : Nat} {r : Option Nat} {d d2 : Dv} (h0 : IsD w B g s r d) (h : MovedD B g s r d2 w w') (hB : B ≤ w.heap.size) : Below B w w' := by
  obtain ⟨r1, h1, h2, h3⟩ := h
  have hl := h0.lt
  refine h3.below (fun k hk => ?_) hB
  rcases hk with rfl | rfl | hk
  · exact hl.2.2.1
  · exact hl.2.2.2.1
  · exact (hl.2.2.2.2 k hk).1
/-- the device's four cells written anew -/
theorem IsD.of_set {w : World} {B g s : Nat} {r : Option Nat} {d : Dv} (h : IsD w B g s r d) {d2 : Dv} (hok : d2.Ok) (hn : d2.n = d.n) (hS : d2.S = d.S) (hL : d2.L = d.L) {w' : World} (ht : Turned (fun k => k = g) w w')
    (hc : ∀ A c, w.heap[g]? = some (.cells #[.slice (some ⟨s, 0, none⟩) d.n d.n, .slice A d.L.length c, .int .i64 d.fuse, .bool d.down] 79 (0, 0)) →
      w'.heap[g]? = some (.cells #[.slice (some ⟨s, 0, none⟩) d.n d.n, .slice A d.L.length c, .int .i64 d2.fuse, .bool d2.down] 79 (0, 0))) : MovedD B g s r d2 w w' := by
  obtain ⟨h1, h2, h3, h4, h5, h6, h7, A, c, h8, h9, h10⟩ := h
  subst h10
  refine ⟨_, ⟨hok, h2, h3, h4, h5, h6, ?_, A, c, ?_, ?_, ?_⟩, fun k hk => .inl hk, ht.mono fun k _ e => .inl e⟩
  · rw [hS]; exact ht.heap h7 (fun e => h4 e.symm)
  · rw [hn, hL]; exact hc A c h8
  · rw [hL]; exact own65_turned ht h9 (fun k hk e => by subst e; exact h5 hk)
  · rw [hL]

theorem made_bytes (n : Nat) : (madeCells z64.cells (n * 64)).toList = bytesV (List.replicate (n * 64) 0) := by
  have h : ∀ j : Nat, j < 64 → z64.cells[j]! = Value.int .u8 0 := fun j hj => by
    show (Array.replicate 64 (Value.int .u8 0))[j]! = _
    rw [getElem!_pos _ _ (by simp; omega), Array.getElem_replicate]
  apply List.ext_getElem?
  intro j
  have hz : z64.cells.size = 64 := by kernel_rfl
  simp only [madeCells, Array.getElem?_toList, Array.getElem?_map, bytesV, List.getElem?_map, List.getElem?_replicate, Array.getElem?_range]
  split
  · simp only [Option.map_some, hz]
    rw [h (j % 64) (by omega)]
    rfl
  · rfl

theorem New_out (n : Int) (w : World) (h : n < 1 ∨ 4096 < n) (h1 : -9223372036854775808 ≤ n) (h2 : n ≤ 9223372036854775807) :
    Calls Tryz.prog 8 #[.int .i64 n] w fun e w' => e = .returned (.pointer none) ∧ w = w' := by
  by_cases h0 : n < 1
  · go_enter Tryz.func8, Tryz.ntmps8
    go_wp2
    go_ret
    exact ⟨rfl, rfl⟩
  · have h3 : 4096 < n := by omega
    go_enter Tryz.func8, Tryz.ntmps8
    go_wp2
    go_ret
    exact ⟨rfl, rfl⟩

theorem New_any (n : Nat) (w : World) (h1 : 1 ≤ n) (h2 : n ≤ 4096) :
    Calls Tryz.prog 8 #[.int .i64 n] w fun e w' => ∃ g s, e = .returned (.pointer (some ⟨g, 0, none⟩)) ∧ IsD w' w.heap.size g s none (.new n) ∧ Below w.heap.size w w' := by
  have n1 : ¬ (n : Int) < 1 := by omega
  have n2 : ¬ 4096 < (n : Int) := by omega
  obtain ⟨i0, hi, hz0, hz1, hz2⟩ := info_parts arr_info
  go_enter Tryz.func8, Tryz.ntmps8
  go_wp2_with (at_make; go_loud (refine wpList_make_full _ rfl (.tmp 9) (.tmp 9) _ rfl w.heap.size 184 i0 z64 64 Tryz.underlying76 hi hz0 hz1 .i64 .i64 n n n rfl rfl rfl rfl (by rw [hz2]; omega) (by unfold maxLen; omega) (Nat.le_refl _) ?_; intro w1 hown hg; have Hown := Lib.hid hown; have Hg := Lib.hid hg; clear hown hg))
  go_ret
  have hb1 : Below w.heap.size w w1 := (Below.refl _ _).grown Hg.out (Nat.le_refl _) (fun k e => by cases e)
  refine ⟨w1.heap.size, rfl, ⟨w.heap.size, ?_⟩, hb1.alloc hb1.size _⟩
  have ho := Hown.out
  rw [made_bytes] at ho
  rcases ho.2 with ⟨e, _⟩ | ⟨g', cap, cur, e, _, hh, _, _, hs, ht⟩
  · cases e
  · injection e with e1 _ e2
    injection e1 with e1
    injection e1 with e1
    subst e1; subst e2
    rw [List.take_of_length_le (by simp [hs])] at ht
    have hcur : cur = (bytesV (List.replicate (n * 64) 0)).toArray := by rw [← ht]
    subst hcur
    have hlt := (Array.getElem?_eq_some_iff.1 hh).1
    refine ⟨Dv.Ok.new h2, hb1.size, Nat.le_refl _, by omega, by simp, by simp, ?_, none, 0, heap_alloc_new _ _, World.ownsRow_nil _ _ _ _, rfl⟩
    rw [Below.heap_alloc _ _ _ hlt]
    exact hh

theorem IsD.setFuse {w : World} {B g s : Nat} {r : Option Nat} {d : Dv} (h : IsD w B g s r d) (u : Int) (h1 : -9223372036854775808 ≤ u) (h2 : u ≤ 9223372036854775807) : MovedD B g s r { d with fuse := u } w (w.setCell ⟨g, 2, none⟩ (.int .i64 u)) :=
  h.of_set (d2 := { d with fuse := u }) ⟨h.ok.n, h.ok.S, h.ok.L, h1, h2⟩ rfl rfl rfl ((Turned.refl (fun k => k = g) w).setCell (b := ⟨g, 2, none⟩) (fun _ => rfl) _) fun A c hh => by rw [row_set hh]; rfl
theorem IsD.setDown {w : World} {B g s : Nat} {r : Option Nat} {d : Dv} (h : IsD w B g s r d) (u : Bool) : MovedD B g s r { d with down := u } w (w.setCell ⟨g, 3, none⟩ (.bool u)) :=
  h.of_set (d2 := { d with down := u }) ⟨h.ok.n, h.ok.S, h.ok.L, h.ok.lo, h.ok.hi⟩ rfl rfl rfl ((Turned.refl (fun k => k = g) w).setCell (b := ⟨g, 3, none⟩) (fun _ => rfl) _) fun A c hh => by rw [row_set hh]; rfl

/-- the fuse goes down; is the power on? -/
theorem burn_any (B g s : Nat) (r : Option Nat) (d : Dv) (w : World) (h : IsD w B g s r d) :
    Calls Tryz.prog 187 #[.pointer (some ⟨g, 0, none⟩)] w fun e w' => e = .returned (.bool (!d.burnt.down)) ∧ MovedD B g s r d.burnt w w' := by
  have H := Lib.hid h
  obtain ⟨hok, hBg, hBs, hgs, hrg, hrs, hS, A, c, hh, hown, hr⟩ := h
  have c2 : w.cell? ⟨g, 2, none⟩ = some (.int .i64 d.fuse) := row_cell hh 2
  have c3 : w.cell? ⟨g, 3, none⟩ = some (.bool d.down) := row_cell hh 3
  have f2 := row_frozen hh 2
  have f3 := row_frozen hh 3
  have lo := hok.lo
  have hi := hok.hi
  clear hS hown hr hh
  by_cases h0 : 0 < d.fuse
  · have hbd : d.burnt = { d with fuse := d.fuse - 1 } := if_pos h0
    have Hbd := Lib.hid hbd; clear hbd
    go_enter Tryz.func187, Tryz.ntmps187
    go_wp2
    go_ret
    rw [Hbd.out]
    exact ⟨rfl, H.out.setFuse _ (by omega) (by omega)⟩
  · by_cases h1 : d.fuse = 0
    · have hbd : d.burnt = { d with down := true } := by unfold Dv.burnt; rw [if_neg h0, if_pos h1]
      have Hbd := Lib.hid hbd; clear hbd
      rw [h1] at c2
      clear h1 h0
      go_enter Tryz.func187, Tryz.ntmps187
      go_wp2
      go_ret
      rw [Hbd.out]
      exact ⟨rfl, H.out.setDown true⟩
    · have hbd : d.burnt = d := by unfold Dv.burnt; rw [if_neg h0, if_neg h1]
      have Hbd := Lib.hid hbd; clear hbd
      go_enter Tryz.func187, Tryz.ntmps187
      go_wp2
      go_ret
      rw [Hbd.out]
      exact ⟨rfl, .refl H.out⟩

theorem has_any (B g s : Nat) (r : Option Nat) (d : Dv) (i : Int) (w : World) (h : IsD w B g s r d) :
    Calls Tryz.prog 118 #[.pointer (some ⟨g, 0, none⟩), .int .i64 i] w fun e w' => e = .returned (.bool (d.has i)) ∧ w = w' := by
  obtain ⟨hok, hBg, hBs, hgs, hrg, hrs, hS, A, c, hh, hown, hr⟩ := h
  have c0 : w.cell? ⟨g, 0, none⟩ = some (.slice (some ⟨s, 0, none⟩) d.n d.n) := row_cell hh 0
  clear hS hown hr hh hok
  by_cases h0 : 0 ≤ i
  · by_cases h1 : i < d.n
    · go_enter Tryz.func118, Tryz.ntmps118
      go_wp2
      go_ret
      exact ⟨by rw [Dv.has, decide_eq_true (p := 0 ≤ i ∧ i < d.n) ⟨h0, h1⟩]; rfl, rfl⟩
    · go_enter Tryz.func118, Tryz.ntmps118
      go_wp2
      go_ret
      exact ⟨by rw [Dv.has, decide_eq_false (p := 0 ≤ i ∧ i < d.n) (by omega)]; rfl, rfl⟩
  · go_enter Tryz.func118, Tryz.ntmps118
    go_wp2
    go_ret
    exact ⟨by rw [Dv.has, decide_eq_false (p := 0 ≤ i ∧ i < d.n) (by omega)]; rfl, rfl⟩

theorem Fuse_any (B g s : Nat) (r : Option Nat) (d : Dv) (n : Int) (w : World) (h : IsD w B g s r d) (h1 : -9223372036854775808 ≤ n) (h2 : n ≤ 9223372036854775807) :
    Calls Tryz.prog 48 #[.pointer (some ⟨g, 0, none⟩), .int .i64 n] w fun e w' => e = .returned (.tuple #[]) ∧ MovedD B g s r { d with fuse := n } w w' := by
  have H := Lib.hid h
  obtain ⟨hok, hBg, hBs, hgs, hrg, hrs, hS, A, c, hh, hown, hr⟩ := h
  have c2 : w.cell? ⟨g, 2, none⟩ = some (.int .i64 d.fuse) := row_cell hh 2
  have f2 := row_frozen hh 2
  clear hS hown hr hh hok
  go_enter Tryz.func48, Tryz.ntmps48
  go_wp2
  go_end0
  exact ⟨rfl, H.out.setFuse n h1 h2⟩
end Go.Proofs.YtdlgihgdpdiglaaGreat
end

section
namespace Go.Proofs.YtdlgihgdpdiglaaGreat
open Go.ChangeShapes Go.WideShapes Go.ChangeAt Go.RowKit
set_option linter.unusedVariables false

def intsV (l : List Int) : List Value := l.map fun x => .int .i64 x

theorem splice_put {S : List UInt8} {o : Nat} {bs : List UInt8} : splice (bytesV S) o (bytesV bs) = bytesV (put S o bs) := by
  simp only [splice, put, bytesV, List.map_append, List.map_take, List.map_drop, List.length_map, List.append_assoc]

section
variable {P : Program} {w : World}
/-- a copy into a row that is known whole, and that nothing else turns -/
theorem wpList_copy_at {ops : Array Oper} {rest : List Oper} {o : Oper} {a : Act} {Q : Exit → Act → World → Prop} (hgd : o.guard = none) (d s : Operand) (dT sT : TypeId)
    (ho : o.op = .call { callee := .builtin .copy, args := #[d, s], argTypes := #[dT, sT] }) (elem : TypeId) (hu : P.underlying dT = some (.slice elem)) (hsz : (P.info? elem).map (·.size) = some 1)
    (dp sp : Option Addr) (dLen dCap sLen sCap : Nat) (hd : a.eval d = .slice dp dLen dCap) (hs : a.eval s = .slice sp sLen sCap)
    (g off : Nat) (cur : List Value) (t : TypeId) (hg : w.heap[g]? = some (.cells cur.toArray t (0, 0))) (cs : List Value) (hn : cs.length = Nat.min sLen dLen)
    (hpos : 0 < cs.length → dp = some ⟨g, off, none⟩ ∧ ∃ ad, sp = some ad ∧ ∀ j v, cs[j]? = some v → w.cell? (ad.add j) = some v)
    (hfit : off + cs.length ≤ cur.length) (h1 : ∀ v ∈ cs, v.oneCell' = true)
    (h : ∀ w', Hid (w'.heap[g]? = some (.cells (splice cur off cs).toArray t (0, 0))) → Turned (fun k => k = g) w w' → wpList P ops Q rest (a.put o.dst (goInt cs.length)) w') :
    wpList P ops Q (o :: rest) a w := by
  by_cases h0 : cs.length = 0
  · obtain rfl : cs = [] := List.eq_nil_of_length_eq_zero h0
    refine wpList_copy_nothing hgd d s dT sT ho elem hu hsz dp sp dLen dCap sLen sCap hd hs (by simpa using hn.symm) ?_
    exact h w (show _ = _ by simpa [splice] using hg) (.refl _ _)
  · obtain ⟨rfl, ad, rfl, hsrc⟩ := hpos (by omega)
    refine wpList_copy_own hgd d s dT sT ho elem hu hsz g off dLen dCap ad sLen sCap hd hs cur.toArray t hg cs hn hsrc (by simpa using hfit) h1 ?_
    exact h _ (show _ = _ by simpa [splice] using setRow_heap w g _ _ t _ hg) ⟨rfl, rfl, rfl, by simp, fun k _ hk => setRow_other w g k _ hk⟩
end

/-- loads and stores of a whole write: behind names -/
def ldWr (p : Value) : Sem Value := Instr.loadAt 218 p
theorem ldWr_eq (p : Value) : Instr.loadAt 218 p = ldWr p := rfl
def stWr (p v : Value) : Sem Unit := Instr.storeAt 218 p v
theorem stWr_eq (p v : Value) : Instr.storeAt 218 p v = stWr p v := rfl
theorem ldWr_run {w : World} {b o : Nat} {cs : List Value} (h : w.rangeAt b o cs) (h65 : cs.length = 65) : (ldWr (.pointer (some ⟨b, o, none⟩))).run Tryz.prog w = .ok (.agg cs.toArray) w :=
  run_loadAt_mid w b o _ _ _ h Tryz.underlying218 rfl (by rw [wr_size, h65])
theorem stWr_run (w : World) (cs cs' : Array Value) (h65 : cs.size = 65) (h65' : cs'.size = 65) (h1 : cs'.all (·.oneCell') = true) :
    (stWr (.pointer (some ⟨w.heap.size, 0, none⟩)) (.agg cs')).run Tryz.prog (w.alloc (.cells cs 218)) = .ok () (w.alloc (.cells cs' 218)) :=
  run_storeAt_new w _ cs cs' (by rw [wr_size, h65']) (by omega) h1
theorem u8_size : (Tryz.prog.info? 5).map (·.size) = some 1 := by kernel_rfl
attribute [local go_sem ↓] ldWr_eq stWr_eq

/-- where the writes lie that wait -/
theorem wait_at {w : World} {B : Nat} {A : Option Addr} {m c k : Nat} {L : List (Nat × List UInt8)} {p : Nat × List UInt8} (hown : w.ownsRow B 218 65 (.slice A m c) m (wcells L)) (hL : ∀ p ∈ L, p.2.length = 64) (hm : L.length = m) (hk : L[k]? = some p) :
    ∃ b, A = some ⟨b, 0, none⟩ ∧ w.rangeAt b (65 * k) (wcell p) := by
  have hkl : k < L.length := (List.getElem?_eq_some_iff.1 hk).1
  rcases hown.2 with ⟨_, h0⟩ | ⟨b, cap, cur, hv, _, hh, hnc, _, hcs, ht⟩
  · omega
  · injection hv with hA
    subst hA
    refine ⟨b, rfl, fun j v hv => ?_⟩
    rw [cell_of_row w b (65 * k + j) cur _ (0, 0) hh]
    have h2 := wcells_at hL hk j v hv
    rw [← ht, List.getElem?_take] at h2
    split at h2
    · simpa using h2
    · cases h2

theorem kept_ways {keeps : List Int} {k : Nat} {x : Int} (h : keeps[k]? = some x) : (x < 0 ∧ kept keeps k = 0) ∨ (∃ q : Nat, x = (q : Int) ∧ (q : Int) ≤ 64 ∧ kept keeps k = q) ∨ (64 < x ∧ kept keeps k = 64) := by
  unfold kept
  rw [h]
  simp only
  by_cases h0 : x < 0
  · exact .inl ⟨h0, by omega⟩
  · by_cases h1 : 64 < x
    · exact .inr (.inr ⟨h1, by omega⟩)
    · exact .inr (.inl ⟨x.toNat, by omega, by omega, by omega⟩)

set_option maxRecDepth 100000 in
theorem settle_any (B g s : Nat) (r : Option Nat) (d : Dv) (KA : Option Addr) (kn kc : Nat) (keeps : List Int) (w : World) (h : IsD w B g s r d) (hL : d.L.length ≤ 1000000) (hk : keeps.length = kn) (hs : Seen w KA (intsV keeps)) (hap : 0 < kn → ∀ gb ob, KA = some ⟨gb, ob, none⟩ → gb ≠ s) :
    Calls Tryz.prog 95 #[.pointer (some ⟨g, 0, none⟩), .slice KA kn kc] w fun e w' => e = .returned (.tuple #[]) ∧ MovedD B g s r (d.settled keeps) w w' := by
  have H := Lib.hid h
  obtain ⟨hok, hBg, hBs, hgs, hrg, hrs, hS, A, c, hh, hown, hr⟩ := h
  have Hs := Lib.hid hs; clear hs
  have Hap := Lib.hid hap; clear hap
  have Hk := Lib.hid hk; clear hk
  have c1 : w.cell? ⟨g, 1, none⟩ = some (.slice A d.L.length c) := row_cell hh 1
  have Hok := Lib.hid hok; have HS := Lib.hid hS; have Hh := Lib.hid hh; have Hown := Lib.hid hown; have Hr := Lib.hid hr; have Hne := Lib.hid (And.intro hgs (And.intro hrg hrs))
  clear hok hS hh hown hr hgs hrg hrs
  obtain ⟨m, hm⟩ : ∃ m, d.L.length = m := ⟨_, rfl⟩
  rw [hm] at c1 hL
  have Hm := Lib.hid hm; clear hm
  go_enter Tryz.func95, Tryz.ntmps95
  go_wp2
  go_loopw [12] (fun i wr => ∃ k : Nat, k ≤ m ∧ i = .int .i64 k ∧ Turned (fun j => j = s) w wr ∧ wr.heap[s]? = some (.cells (bytesV (settle keeps 0 (d.L.take k) d.S)).toArray 184 (0, 0))) (fun i _ => m - (intOf i).toNat)
  case atStart => exact ⟨0, by omega, rfl, .refl _ _, by simpa [settle] using HS.out⟩
  case round =>
    obtain ⟨k, hkm, rfl, ht, hsr⟩ := hrel
    have Ht := Lib.hid ht; clear ht
    have Hsr := Lib.hid hsr; clear hsr
    have hg0 := Ht.out.heap Hh.out (fun e => Hne.out.1 e)
    have hc0 : wr.cell? ⟨g, 0, none⟩ = some (.slice (some ⟨s, 0, none⟩) d.n d.n) := row_cell hg0 0
    have hc1 : wr.cell? ⟨g, 1, none⟩ = some (.slice A d.L.length c) := row_cell hg0 1
    have hf1 : wr.frozen? ⟨g, 1, none⟩ = false := row_frozen hg0 1
    have Hg0 := Lib.hid hg0; clear hg0
    by_cases hlt : k < m
    · obtain ⟨p, hp⟩ : ∃ p, d.L[k]? = some p := ⟨_, List.getElem?_eq_getElem (by have := Hm.out; omega)⟩
      have hpL := Hok.out.L p (List.mem_of_getElem? hp)
      obtain ⟨b, hA, hra⟩ := wait_at Hown.out (fun p hp => (Hok.out.L p hp).2) rfl hp
      have hbs : b ≠ s := fun e => by
        subst e; subst hA
        exact Hne.out.2.2 Hr.out.symm
      subst hA
      have hra1 : wr.rangeAt b (65 * k) (wcell p) := fun j v hv => Ht.out.cell (hra j v hv) hbs
      clear hra
      have hwl : (wcell p).length = 65 := by simp [wcell, bytes_length, hpL.2]
      have hld := ldWr_run hra1 hwl
      rw [show 65 * k = k * 65 by omega] at hld
      have hst := stWr_run wr zw (wcell p).toArray zw_size (by simp [hwl]) (all_oneCell_toArray (wcell_one p))
      obtain ⟨cw, hcw⟩ : ∃ cw, (wcell p).toArray = cw := ⟨_, rfl⟩
      rw [hcw] at hld hst
      have hZ := zw_run
      have hcw0 : cw[0]? = some (.int .i64 (p.1 : Int)) := by rw [← hcw]; rfl
      have hcwj : ∀ j v, (bytesV p.2)[j]? = some v → cw[1 + j]? = some v := fun j v hv => by rw [← hcw, Nat.add_comm]; simpa [wcell] using hv
      have hd0 : (wr.alloc (.cells cw 218)).cell? ⟨g, 0, none⟩ = some (.slice (some ⟨s, 0, none⟩) d.n d.n) := (World.cell?_alloc_lt wr _ _ (block_lt_of_cell hc0)).trans hc0
      have hp0 : (wr.alloc (.cells cw 218)).cell? ⟨wr.heap.size, 0, none⟩ = some (.int .i64 (p.1 : Int)) := (cell_of_row _ _ 0 _ _ (0, 0) (heap_alloc_new wr _)).trans hcw0
      have hsr2 : (wr.alloc (.cells cw 218)).heap[s]? = some (.cells (bytesV (settle keeps 0 (d.L.take k) d.S)).toArray 184 (0, 0)) := (Below.heap_alloc _ _ _ (Array.getElem?_eq_some_iff.1 Hsr.out).1).trans Hsr.out
      have tw : Turned (fun j => j = s) w (wr.alloc (.cells cw 218)) := Ht.out.alloc _
      have hnew : (wr.alloc (.cells cw 218)).heap[wr.heap.size]? = some (.cells cw 218 (0, 0)) := heap_alloc_new wr _
      obtain ⟨W2, hW2⟩ : ∃ W2, wr.alloc (.cells cw 218) = W2 := ⟨_, rfl⟩
      rw [hW2] at hst hd0 hp0 hsr2 tw hnew
      have Hcwj := Lib.hid hcwj; clear hcwj hcw0
      have Htw := Lib.hid tw; have Hnew := Lib.hid hnew; have HW2 := Lib.hid hW2
      clear tw hnew hW2
      have Hsr2 := Lib.hid hsr2; clear hsr2
      have i0 : (0 : Int) ≤ (p.1 : Int) := by omega
      have i1 : (p.1 : Int) < (d.n : Int) := by have := hpL.1; omega
      have Hcw := Lib.hid hcw; clear hcw hra1 hwl hbs
      have Hp := Lib.hid hp; clear hp
      have HpL := Lib.hid hpL; clear hpL
      have hkp := kept_le keeps k
      have hlen : (bytesV (p.2.take (kept keeps k))).length = kept keeps k := by rw [bytes_length, List.length_take, HpL.out.2]; omega
      have hsrc : ∀ j v, (bytesV (p.2.take (kept keeps k)))[j]? = some v → W2.drew.cell? ((⟨wr.heap.size, 1, none⟩ : Addr).add j) = some v := fun j v hv => by
        rw [Addr.add_lit]
        show W2.cell? ⟨wr.heap.size, 1 + j, none⟩ = some v
        rw [cell_of_row W2 _ _ _ _ (0, 0) Hnew.out]
        refine Hcwj.out j v ?_
        rw [bytesV, List.map_take, List.getElem?_take] at hv
        split at hv
        · exact hv
        · cases hv
      have hfit : p.1 * 64 + (bytesV (p.2.take (kept keeps k))).length ≤ (bytesV (settle keeps 0 (d.L.take k) d.S)).length := by
        rw [hlen, bytes_length, settle_length keeps _ 0 _ d.n Hok.out.S (fun q hq => Hok.out.L q (List.mem_of_mem_take hq))]
        have := HpL.out.1
        omega
      have hnext : bytesV (settle keeps 0 (d.L.take (k + 1)) d.S) = splice (bytesV (settle keeps 0 (d.L.take k) d.S)) (p.1 * 64) (bytesV (p.2.take (kept keeps k))) := by
        have hkl : k < d.L.length := by have := Hm.out; omega
        have hp := Hp.out
        rw [List.getElem?_eq_getElem hkl] at hp
        injection hp with hp
        rw [splice_put, List.take_succ_eq_append_getElem hkl, hp, settle_snoc, List.length_take, Nat.min_eq_left (by omega), Nat.zero_add, Nat.mul_comm 64]
      have Hlen := Lib.hid hlen; have Hsrc := Lib.hid hsrc; have Hfit := Lib.hid hfit; have Hnext := Lib.hid hnext
      clear hkp hlen hsrc hfit hnext
      have b0 : (0 : Int) ≤ (k : Int) := by omega
      have b1 : (k : Int) < (m : Int) := by omega
      have Hp1 := Lib.hid Hp.out; clear Hp
      by_cases hkk : k < kn
      · obtain ⟨x, hx⟩ : ∃ x, keeps[k]? = some x := ⟨_, List.getElem?_eq_getElem (by have := Hk.out; omega)⟩
        have hxs : ∃ kb ko, KA = some ⟨kb, ko, none⟩ ∧ wr.cell? ⟨kb, ko + k, none⟩ = some (.int .i64 x) := by
          rcases Hs.out with e | ⟨kb, ko, e, hc⟩
          · have := congrArg List.length e
            rw [intsV, List.length_map, Hk.out] at this
            simp at this
            omega
          · exact ⟨kb, ko, e, Ht.out.cell (hc k _ (by rw [intsV, List.getElem?_map, hx]; rfl)) (Hap.out (by omega) kb ko e)⟩
        obtain ⟨kb, ko, rfl, hkc0⟩ := hxs
        have hkc := (World.cell?_alloc_lt wr (.cells cw 218) _ (block_lt_of_cell hkc0)).trans hkc0
        rw [HW2.out] at hkc
        clear hkc0
        have Hx := Lib.hid hx; clear hx
        have b2 : (k : Int) < (kn : Int) := by omega
        have Hkl := Lib.hid hkk; clear hkk
        rcases kept_ways Hx.out with ⟨x0, hq⟩ | ⟨q, rfl, x0, hq⟩ | ⟨x0, hq⟩
        all_goals
          have Hq := Lib.hid hq; clear hq
          go_wp2
          go_still_tail 11, (by kernel_rfl)
          change wpList _ _ _ _ _ W2.drew
          refine wpList_copy_at rfl (.tmp 34) (.tmp 37) _ _ rfl 5 Tryz.underlying39 u8_size _ _ _ _ _ _ rfl rfl s (p.1 * 64) _ _ Hsr2.out (bytesV (p.2.take (kept keeps k))) (by rw [Hlen.out, Hq.out]; first | rfl | exact (Nat.min_eq_left (by omega)).symm) (fun _ => ⟨rfl, _, rfl, Hsrc.out⟩) Hfit.out (bytes_one _) ?_
          intro w3 hs3 ht3; have Hs3 := Lib.hid hs3; have Ht3 := Lib.hid ht3; clear hs3 ht3
          go_wp2
          go_roundw
          case rel => exact ⟨k + 1, by omega, by go_num, (Htw.out.trans (.of_below (Below.refl _ _).drew) (fun _ e => e) (fun _ _ e => e)).trans Ht3.out (fun _ e => e) (fun _ _ e => e), by rw [Hnext.out]; exact Hs3.out.out⟩
          case measure => simp [intOf]; omega
      · have hq : kept keeps k = 64 := by
          unfold kept
          rw [List.getElem?_eq_none (by have := Hk.out; omega)]
        have b2 : ¬ (k : Int) < (kn : Int) := by omega
        have Hkl := Lib.hid hkk; clear hkk
        have Hq := Lib.hid hq; clear hq
        go_wp2
        go_still_tail 11, (by kernel_rfl)
        change wpList _ _ _ _ _ W2.drew
        refine wpList_copy_at rfl (.tmp 34) (.tmp 37) _ _ rfl 5 Tryz.underlying39 u8_size _ _ _ _ _ _ rfl rfl s (p.1 * 64) _ _ Hsr2.out (bytesV (p.2.take (kept keeps k))) (by rw [Hlen.out, Hq.out]; first | rfl | exact (Nat.min_eq_left (by omega)).symm) (fun _ => ⟨rfl, _, rfl, Hsrc.out⟩) Hfit.out (bytes_one _) ?_
        intro w3 hs3 ht3; have Hs3 := Lib.hid hs3; have Ht3 := Lib.hid ht3; clear hs3 ht3
        go_wp2
        go_roundw
        case rel => exact ⟨k + 1, by omega, by go_num, (Htw.out.trans (.of_below (Below.refl _ _).drew) (fun _ e => e) (fun _ _ e => e)).trans Ht3.out (fun _ e => e) (fun _ _ e => e), by rw [Hnext.out]; exact Hs3.out.out⟩
        case measure => simp [intOf]; omega
    · have hkm' : k = m := by omega
      subst hkm'
      have Hhlt := Lib.hid hlt; clear hlt
      go_wp2
      go_end0
      refine ⟨rfl, none, ⟨Hok.out.settled keeps, hBg, hBs, Hne.out.1, by simp, by simp, ?_, none, 0, ?_, World.ownsRow_nil _ _ _ _, rfl⟩, fun j hj => by simp at hj, ?_⟩
      · rw [Below.heap_setCell _ _ _ _ (fun e => Hne.out.1 e.symm)]
        have := Hsr.out
        rwa [List.take_of_length_le (by have := Hm.out; omega)] at this
      · rw [row_set Hg0.out]; rfl
      · exact (Ht.out.mono (fun _ _ e => .inr (.inl e))).setCell (fun _ => .inl rfl) _

theorem Boot_any (B g s : Nat) (r : Option Nat) (d : Dv) (KA : Option Addr) (kn kc : Nat) (keeps : List Int) (w : World) (h : IsD w B g s r d) (hL : d.L.length ≤ 1000000) (hk : keeps.length = kn) (hs : Seen w KA (intsV keeps)) (hap : 0 < kn → ∀ gb ob, KA = some ⟨gb, ob, none⟩ → gb ≠ s) :
    Calls Tryz.prog 49 #[.pointer (some ⟨g, 0, none⟩), .slice KA kn kc] w fun e w' => e = .returned (.tuple #[]) ∧ MovedD B g s r (d.boot keeps) w w' := by
  have H := Lib.hid h; clear h
  have Hs := Lib.hid hs; clear hs
  have Hap := Lib.hid hap; clear hap
  have Hk := Lib.hid hk; clear hk
  go_enter Tryz.func49, Tryz.ntmps49
  go_wp2_with fail
  refine (settle_any B g s r d KA kn kc keeps w H.out hL Hk.out Hs.out Hap.out).mono ?_
  rintro e w1 ⟨rfl, hmv⟩
  obtain ⟨r1, hd, hrr, htt⟩ := hmv
  have Hd := Lib.hid hd; have Hrr := Lib.hid hrr; have Htt := Lib.hid htt
  obtain ⟨hok, hBg, hBs, hgs, hrg, hrs, hS, A, c, hh, hown, hr⟩ := hd
  have c3 := row_cell hh 3
  have c2 := row_cell hh 2
  have f2 := row_frozen hh 2
  have f3 := row_frozen hh 3
  simp at c2 c3
  clear hok hS hh hown hr hgs hrg hrs hrr htt
  have hf2 : ∀ u, (w1.setCell ⟨g, 3, none⟩ u).frozen? ⟨g, 2, none⟩ = false := fun u => by rw [World.frozen?_setCell]; exact f2
  have hc2 : ∀ u, (w1.setCell ⟨g, 3, none⟩ u).cell? ⟨g, 2, none⟩ = w1.cell? ⟨g, 2, none⟩ := fun u => World.cell?_setCell_other _ _ _ _ (by simp)
  go_wp2
  go_end0
  refine ⟨rfl, MovedD.step Hrr.out Htt.out ?_⟩
  exact (Hd.out.setDown false).trans fun r2 h2 => h2.setFuse (-1) (by omega) (by omega)

theorem Flush_any (B g s : Nat) (r : Option Nat) (d : Dv) (w : World) (h : IsD w B g s r d) (hL : d.L.length ≤ 1000000) :
    Calls Tryz.prog 131 #[.pointer (some ⟨g, 0, none⟩)] w fun e w' => e = .returned (.int .i64 (d.flushE : Int)) ∧ MovedD B g s r d.flush w w' := by
  have H := Lib.hid h; clear h
  obtain ⟨d1, hd1⟩ : ∃ d1, d.burnt = d1 := ⟨_, rfl⟩
  have hL1 : d1.L.length ≤ 1000000 := by rw [← hd1, Dv.burnt_L]; exact hL
  cases hdn : d1.down with
  | true =>
    have e1 : d.flushE = 16 ∧ d.flush = d1 := by unfold Dv.flushE Dv.flush; rw [hd1, if_pos hdn, if_pos hdn]; exact ⟨rfl, rfl⟩
    rw [e1.1]
    have E1 := Lib.hid e1; have Hd1 := Lib.hid hd1; have Hdn := Lib.hid hdn
    clear e1 hd1 hdn
    go_enter Tryz.func131, Tryz.ntmps131
    go_wp2_with fail
    refine (burn_any B g s r d w H.out).mono ?_
    rw [Hd1.out, Hdn.out]
    rintro e w1 ⟨rfl, hmv⟩
    have Hmv := Lib.hid hmv; clear hmv
    go_wp2
    go_ret
    rw [E1.out.2]
    exact ⟨rfl, Hmv.out⟩
  | false =>
    have e1 : d.flushE = 0 ∧ d.flush = d1.settled [] := by
      have h' : ¬ d1.down = true := by rw [hdn]; simp
      unfold Dv.flushE Dv.flush; rw [hd1, if_neg h', if_neg h']; exact ⟨rfl, rfl⟩
    rw [e1.1]
    have E1 := Lib.hid e1; have Hd1 := Lib.hid hd1; have Hdn := Lib.hid hdn
    clear e1 hd1 hdn
    go_enter Tryz.func131, Tryz.ntmps131
    go_wp2_with fail
    refine (burn_any B g s r d w H.out).mono ?_
    rw [Hd1.out, Hdn.out]
    rintro e w1 ⟨rfl, hmv⟩
    obtain ⟨r1, hd, hrr, htt⟩ := hmv
    have Hd := Lib.hid hd; have Hrr := Lib.hid hrr; have Htt := Lib.hid htt
    clear hd hrr htt
    go_wp2_with fail
    refine (settle_any B g s r1 d1 none 0 0 [] w1 Hd.out hL1 rfl (.inl rfl) (fun h => by omega)).mono ?_
    rintro e w2 ⟨rfl, hmv⟩
    have Hmv := Lib.hid hmv; clear hmv
    go_wp2
    go_ret
    rw [E1.out.2]
    exact ⟨rfl, MovedD.step Hrr.out Htt.out Hmv.out⟩
end Go.Proofs.YtdlgihgdpdiglaaGreat
end

section
namespace Go.Proofs.YtdlgihgdpdiglaaGreat
open Go.ChangeShapes Go.WideShapes Go.ChangeAt Go.RowKit Go.Shelf
set_option linter.unusedVariables false
attribute [local go_sem] Oper.semAt_some
attribute [local go_sem ↓] ldWr_eq stWr_eq

/-- a write's cells, as one array -/
def wArr (p : Nat × List UInt8) : Array Value := (wcell p).toArray
/-- a write with its number -/
abbrev NW := { x : Nat × Nat × List UInt8 // x.2.2.length = 64 }
def encW (x : NW) : Array Value := #[.int .i64 (x.1.1 : Int), .agg (wArr x.1.2)]
def upto {α : Type} (f : Nat → α) (k : Nat) : List α := (List.range k).map f
theorem upto_succ {α : Type} (f : Nat → α) (k : Nat) : upto f (k + 1) = upto f k ++ [f k] := by simp [upto, List.range_succ]
theorem upto_length {α : Type} (f : Nat → α) (k : Nat) : (upto f k).length = k := by simp [upto]
theorem wArr_size {x : NW} : (wArr x.1.2).size = 65 := by simp [wArr, wcell, bytes_length, x.2]

set_option maxRecDepth 100000 in
set_option maxHeartbeats 2000000 in
theorem backward1_in (F : Fence) (n : Nat) (h7 : F.fn 210) (hro : F.round = none) (hn : 1 ≤ n) (l Bs n₀ b len cap : Nat) (A : Option Addr) (hlen : len ≤ 1000000) (hb : b < n₀) (hA : 0 < len → A = some ⟨b, 0, none⟩) (f : Nat → NW) (J Jx : List NW → World → Prop)
    (hf : ∀ k i, len = k + 1 + i → (f k).1.1 = i)
    (hY : ∀ pre x W, J pre W → pre.length < len → YieldAt F (n - 1) Tryz.prog l #[.int .i64 (x.1.1 : Int), .agg (wArr x.1.2)] W fun e W' =>
      (e = .returned (.bool true) ∧ J (pre ++ [x]) W' ∧ Below n₀ W W') ∨ (e = .returned (.bool false) ∧ Jx (pre ++ [x]) W'))
    (W : World) (hBs : Bs < n₀) (hBc : W.cell? ⟨Bs, 0, none⟩ = some (.slice A len cap)) (hc : ∀ k i, len = k + 1 + i → W.rangeAt b (i * 65) (wcell (f k).1.2)) (h0 : J [] W) :
    CallsIn F n Tryz.prog 210 #[.func (.yield l) #[] #[], .pointer (some ⟨Bs, 0, none⟩)] W fun e W' => (∃ v, e = .returned v) ∧
      ((∃ ys, ys = upto f len ∧ J ys W') ∨ (∃ pre, (∃ k, k < len ∧ pre = upto f (k + 1)) ∧ Jx pre W')) := by
  refine callsIn_of_wp Tryz.func210 rfl h7 ?_ hro
  simp only [Tryz.ntmps210, List.size_toArray, List.length_cons, List.length_nil, Nat.reduceAdd, Nat.reduceSub, Array.replicate_succ, Array.replicate_zero, List.push_toArray, List.append_toArray, List.nil_append, List.cons_append]
  have Hc := Lib.hid hc; clear hc
  have Hf := Lib.hid hf; clear hf
  have HA := Lib.hid hA; clear hA
  gi_wp2
  gi_loopw [3] (fun i wr => (∃ k i' : Nat, i = .int .i64 (i' : Int) ∧ len = k + 1 + i' ∧ J (upto f k) wr ∧ Below n₀ W wr) ∨ (i = .int .i64 (-1) ∧ J (upto f len) wr ∧ Below n₀ W wr))
    (fun i _ => (intOf i + 1).toNat)
  case atStart =>
    by_cases h : len = 0
    · subst h
      exact .inr ⟨rfl, h0, Below.refl _ _⟩
    · exact .inl ⟨0, len - 1, by congr 1; omega, by omega, h0, Below.refl _ _⟩
  case round =>
    rcases hrel with ⟨k, i, rfl, hk, hJs, hnx⟩ | ⟨rfl, hJs, hnx⟩
    · have hra : wr.rangeAt b (i * 65) (wcell (f k).1.2) := fun j v hv => by
        have := Hc.out k i hk j v hv
        rw [hnx.cell (p := ⟨b, i * 65 + j, none⟩) hb]
        exact this
      have hld := ldWr_run hra (by simp [wcell, bytes_length, (f k).2])
      have hcB : wr.cell? ⟨Bs, 0, none⟩ = some (.slice A len cap) := (hnx.cell (p := ⟨Bs, 0, none⟩) hBs).trans hBc
      obtain rfl := HA.out (by omega)
      obtain ⟨fn, tmps, assign, body, hy, hR⟩ := hY _ (f k) wr hJs (by rw [upto_length]; omega)
      rw [Hf.out k i hk] at hy
      rw [show (wcell (f k).1.2).toArray = wArr (f k).1.2 from rfl] at hld
      have b0 : (0 : Int) ≤ (i : Int) := by omega
      have b1 : (i : Int) < (len : Int) := by omega
      have Hk := Lib.hid hk; clear hk hra
      gi_wp2
      refine hR.mono ?_
      rintro e W3 (⟨rfl, hJ3, hk3⟩ | ⟨rfl, hJx3⟩)
      · gi_wp2
        go_roundw
        case rel =>
          have hk := Hk.out
          by_cases h : i = 0
          · subst h
            exact .inr ⟨rfl, by rw [show len = k + 1 by omega, upto_succ]; exact hJ3, hnx.trans hk3⟩
          · exact .inl ⟨k + 1, i - 1, by congr 1; omega, by omega, by rw [upto_succ]; exact hJ3, hnx.trans hk3⟩
        case measure => simp [intOf]
      · gi_wp2
        refine bodyPost_ret (results_none rfl _ _ _) rfl ?_
        exact ⟨⟨_, rfl⟩, .inr ⟨_, ⟨k, by have := Hk.out; omega, (upto_succ _ _).symm⟩, hJx3⟩⟩
    · gi_wp2
      go_end0
      exact ⟨⟨_, rfl⟩, .inl ⟨_, rfl, hJs⟩⟩

set_option maxHeartbeats 1000000 in
theorem backward_in (F : Fence) (n : Nat) (h5 : F.fn 184) (hro : F.round = none) (a : Option Addr) (len cap : Nat) (w : World) :
    CallsIn F n Tryz.prog 184 #[.slice a len cap] w fun e w' => e = .returned (.func (.func 210) #[] #[.pointer (some ⟨w.heap.size, 0, none⟩)]) ∧ w' = w.alloc (.cells #[.slice a len cap] 77) := by
  refine callsIn_of_wp Tryz.func184 rfl h5 ?_ hro
  simp only [Tryz.ntmps184, List.size_toArray, List.length_cons, List.length_nil, Nat.reduceAdd, Nat.reduceSub, Array.replicate_succ, Array.replicate_zero, List.push_toArray, List.append_toArray, List.nil_append, List.cons_append]
  gi_wp2
  go_ret
  exact ⟨rfl, rfl⟩

/-- a range over them: all of them, the last first; or up to one at which it left -/
theorem backward_stops (F : Fence) (n : Nat) (h7 : F.fn 210) (hro : F.round = none) (hn : 1 ≤ n) (Bs n₀ b len cap : Nat) (A : Option Addr) (hlen : len ≤ 1000000) (hb : b < n₀) (hA : 0 < len → A = some ⟨b, 0, none⟩) (f : Nat → NW)
    (hf : ∀ k i, len = k + 1 + i → (f k).1.1 = i) (w : World) (hBs : Bs < n₀) (hn₀ : n₀ ≤ w.heap.size) (hBc : w.cell? ⟨Bs, 0, none⟩ = some (.slice A len cap)) (hc : ∀ k i, len = k + 1 + i → w.rangeAt b (i * 65) (wcell (f k).1.2)) :
    SeqStopsK F n Tryz.prog 210 #[.pointer (some ⟨Bs, 0, none⟩)] encW (Below n₀) (fun ys => ys = upto f len) (fun pre => ∃ k, k < len ∧ pre = upto f (k + 1)) len w := fun l J Jx W hW _ _ hY h0 =>
  backward1_in F n h7 hro hn l Bs n₀ b len cap A hlen hb hA f J Jx hf hY W hBs ((hW.cell (p := ⟨Bs, 0, none⟩) (by show Bs < _; omega)).trans hBc)
    (fun k i hk j v hv => (hW.cell (p := ⟨b, i * 65 + j, none⟩) (by show b < _; omega)).trans (hc k i hk j v hv)) h0
end Go.Proofs.YtdlgihgdpdiglaaGreat
end

section
namespace Go.Proofs.YtdlgihgdpdiglaaGreat
open Go.ChangeShapes Go.WideShapes Go.ChangeAt Go.RowKit Go.Shelf
set_option linter.unusedVariables false
attribute [local go_sem] Oper.semAt_some
attribute [local go_sem ↓] ldWr_eq stWr_eq ldArr_eq stArr_eq

/-- block B holds the cells cs -/
def Blk (W : World) (B : Nat) (t : TypeId) (cs : Array Value) : Prop := W.heap[B]? = some (.cells cs t (0, 0))
theorem Blk.lt {W : World} {B : Nat} {t : TypeId} {cs : Array Value} (h : Blk W B t cs) : B < W.heap.size := (Array.getElem?_eq_some_iff.1 h).1
theorem Blk.alloc {W : World} {B : Nat} {t : TypeId} {cs : Array Value} (h : Blk W B t cs) (o : Obj) : Blk (W.alloc o) B t cs := (Below.heap_alloc _ _ _ h.lt).trans h
theorem Blk.new (W : World) (t : TypeId) (cs : Array Value) : Blk (W.alloc (.cells cs t)) W.heap.size t cs := heap_alloc_new W _
theorem blk_own {β : Type} (B : Nat) (t : TypeId) (f : β → Array Value) : Own (fun s W => Blk W B t (f s)) := fun s X Y row hs hg hrow => by
  have hne : some B ≠ row := fun e' => by
    obtain ⟨o, ho, hc⟩ := hrow B e'.symm
    rw [show X.heap[B]? = _ from hs] at ho
    cases ho
    cases hc
  exact (hg.block B (Blk.lt hs) hne).trans hs

/-- the writes from behind -/
def revW (L : List (Nat × List UInt8)) (h : ∀ p ∈ L, p.2.length = 64) (k : Nat) : NW :=
  if hk : k < L.length then ⟨(L.length - 1 - k, L[L.length - 1 - k]'(by omega)), h _ (List.getElem_mem _)⟩ else ⟨(0, 0, List.replicate 64 0), by simp⟩
theorem revW_at {L : List (Nat × List UInt8)} {h : ∀ p ∈ L, p.2.length = 64} {k i : Nat} (hk : L.length = k + 1 + i) : (revW L h k).1.1 = i ∧ L[i]? = some (revW L h k).1.2 := by
  unfold revW
  rw [dif_pos (by omega)]
  have e : L.length - 1 - k = i := by omega
  simp only [e]
  exact ⟨trivial, List.getElem?_eq_getElem (by omega)⟩
theorem revW_all {L : List (Nat × List UInt8)} (h : ∀ p ∈ L, p.2.length = 64) : L.reverse = (upto (revW L h) L.length).map (fun x => x.1.2) := by
  apply List.ext_getElem?
  intro k
  by_cases hk : k < L.length
  · rw [List.getElem?_reverse hk]
    have := (revW_at (L := L) (h := h) (k := k) (i := L.length - 1 - k) (by omega)).2
    rw [this]
    simp [upto, hk]
  · rw [List.getElem?_eq_none (by simp; omega), List.getElem?_eq_none (by simp [upto]; omega)]
theorem newest_none {L : List (Nat × List UInt8)} (h : ∀ p ∈ L, p.2.length = 64) {S : List UInt8} {i : Nat} (hn : ∀ x ∈ upto (revW L h) L.length, x.1.2.1 ≠ i) : newest L S i = sec S i := by
  unfold newest
  rw [revW_all h, List.find?_eq_none.2]
  intro p hp
  simp only [List.mem_map] at hp
  obtain ⟨x, hx, rfl⟩ := hp
  simp only [beq_iff_eq]
  exact hn x hx
theorem upto_split {α : Type} (f : Nat → α) {k n : Nat} (hk : k ≤ n) : ∃ r, upto f n = upto f k ++ r := by
  induction n with
  | zero => exact ⟨[], by rw [show k = 0 by omega]; simp⟩
  | succ n ih =>
    by_cases h : k = n + 1
    · exact ⟨[], by rw [h]; simp⟩
    · obtain ⟨r, hr⟩ := ih (by omega)
      exact ⟨r ++ [f n], by rw [upto_succ, hr, List.append_assoc]⟩
theorem newest_some {L : List (Nat × List UInt8)} (h : ∀ p ∈ L, p.2.length = 64) {S : List UInt8} {i k : Nat} {pre : List NW} {x : NW} (hk : k < L.length) (he : upto (revW L h) (k + 1) = pre ++ [x]) (hn : ∀ x ∈ pre, x.1.2.1 ≠ i) (hx : x.1.2.1 = i) : newest L S i = x.1.2.2 := by
  unfold newest
  obtain ⟨r, hr⟩ := upto_split (revW L h) (show k + 1 ≤ L.length by omega)
  rw [revW_all h, hr, he, List.map_append, List.map_append, List.append_assoc, List.find?_append, List.find?_eq_none.2]
  · simp [hx]
  · intro p hp
    simp only [List.mem_map] at hp
    obtain ⟨x, hx, rfl⟩ := hp
    simp only [beq_iff_eq]
    exact hn x hx

set_option maxRecDepth 100000 in
set_option maxHeartbeats 4000000 in
theorem newest_any (B g s : Nat) (r : Option Nat) (d : Dv) (i : Nat) (w : World) (h : IsD w B g s r d) (hL : d.L.length ≤ 1000000) (hi : i < d.n) :
    Calls Tryz.prog 119 #[.pointer (some ⟨g, 0, none⟩), .int .i64 i] w fun e w' => e = .returned (.agg (bytesV (newest d.L d.S i)).toArray) ∧ Below w.heap.size w w' := by
  refine (callsIn_wide (n := 9)).1 ?_
  have hlt := h.lt
  have H := Lib.hid h
  obtain ⟨hok, hBg, hBs, hgs, hrg, hrs, hS, A, c, hh, hown, hr⟩ := h
  have c1 : w.cell? ⟨g, 1, none⟩ = some (.slice A d.L.length c) := row_cell hh 1
  have c0 : w.cell? ⟨g, 0, none⟩ = some (.slice (some ⟨s, 0, none⟩) d.n d.n) := row_cell hh 0
  have hgl : g < w.heap.size := hlt.1
  have hZ := za_run
  have Hok := Lib.hid hok; have HS := Lib.hid hS; have Hh := Lib.hid hh; have Hown := Lib.hid hown; have Hr := Lib.hid hr; have Hlt := Lib.hid hlt
  clear hok hS hh hown hr hgs hrg hrs hlt
  refine callsIn_of_wp_marks Tryz.func119 rfl trivial ?_ rfl
  simp only [Tryz.ntmps119, List.size_toArray, List.length_cons, List.length_nil, Nat.reduceAdd, Nat.reduceSub, Array.replicate_succ, Array.replicate_zero, List.push_toArray, List.append_toArray, List.nil_append, List.cons_append]
  gi_wp2_with (refine ⟨trivial, ?_⟩; gi_at_call 184; refine (backward_in Fence.wide _ trivial rfl _ _ _ _).mono ?_; rintro e w' ⟨rfl, rfl⟩)
  have hZ2 := zw_run
  have bI := ((Blk.new w 3 #[.int .i64 i]).alloc (.cells za 184)).alloc (.cells #[.slice A d.L.length c] 77)
  have bR := (Blk.new (w.alloc (.cells #[.int .i64 i] 3)) 184 za).alloc (.cells #[.slice A d.L.length c] 77)
  have bS := Blk.new ((w.alloc (.cells #[.int .i64 i] 3)).alloc (.cells za 184)) 77 #[.slice A d.L.length c]
  simp only [World.size_alloc] at bR bS
  have hB0 : Below w.heap.size w (((w.alloc (.cells #[.int .i64 i] 3)).alloc (.cells za 184)).alloc (.cells #[.slice A d.L.length c] 77)) := (((Below.refl _ w).alloc (Nat.le_refl _) _).alloc (by simp) _).alloc (by simp; omega) _
  have hsz : (((w.alloc (.cells #[.int .i64 i] 3)).alloc (.cells za 184)).alloc (.cells #[.slice A d.L.length c] 77)).heap.size = w.heap.size + 3 := by simp
  obtain ⟨W0, hW0⟩ : ∃ W0, (((w.alloc (.cells #[.int .i64 i] 3)).alloc (.cells za 184)).alloc (.cells #[.slice A d.L.length c] 77)) = W0 := ⟨_, rfl⟩
  rw [hW0] at bI bR bS hB0 hsz ⊢
  clear hW0
  have hL64 : ∀ p ∈ d.L, p.2.length = 64 := fun p hp => (Hok.out.L p hp).2
  -- the row of the writes
  have hrow : ∃ b, b < w.heap.size ∧ (0 < d.L.length → A = some ⟨b, 0, none⟩) ∧ ∀ k i, d.L.length = k + 1 + i → W0.rangeAt b (i * 65) (wcell (revW d.L hL64 k).1.2) := by
    by_cases h0 : d.L.length = 0
    · exact ⟨g, hgl, fun h => by omega, fun k i h => by omega⟩
    · obtain ⟨p0, hp0⟩ : ∃ p, d.L[0]? = some p := ⟨_, List.getElem?_eq_getElem (by omega)⟩
      obtain ⟨b, hA, _⟩ := wait_at Hown.out hL64 rfl hp0
      have hbl : b < w.heap.size := (Hlt.out.2.2.2.2 b (by rw [← Hr.out, hA]; rfl)).2
      refine ⟨b, hbl, fun _ => hA, fun k i hk j v hv => ?_⟩
      obtain ⟨b2, hA2, hra⟩ := wait_at Hown.out hL64 rfl (revW_at (h := hL64) hk).2
      rw [hA] at hA2
      obtain rfl : b = b2 := by simpa using hA2
      rw [hB0.cell (p := ⟨b, i * 65 + j, none⟩) hbl, Nat.mul_comm i]
      exact hra j v hv
  obtain ⟨b, hbl, hAb, hrows⟩ := hrow
  have hlen := hL
  refine wpIn_rangeFunc_ownH (F := Fence.wide) rfl (by omega) (gf := 210) (lb := #[.pointer (some ⟨w.heap.size + 1 + 1, 0, none⟩)]) rfl trivial (enters_of Tryz.func210 (by kernel_rfl) rfl)
    (backward_stops Fence.wide _ trivial rfl (by omega) (w.heap.size + 1 + 1) W0.heap.size b d.L.length c A hlen (by omega) hAb (revW d.L hL64) (fun k i hk => (revW_at hk).1) W0 (by omega) (Nat.le_refl _) (by exact row_cell bS 0) hrows) belowK_t (belowK_b (Nat.le_refl _)) (Below.refl _ _) (fun _ => rfl)
    (fun pre W => (∀ x ∈ pre, x.1.2.1 ≠ i) ∧ Below W0.heap.size W0 W)
    (fun c pre W => (c = .ret ∧ ∃ x pre0, pre = pre0 ++ [x] ∧ (∀ y ∈ pre0, y.1.2.1 ≠ i) ∧ x.1.2.1 = i ∧ Blk W (w.heap.size + 1) 184 (bytesV x.1.2.2).toArray) ∧ Below w.heap.size w W)
    (OwnFrom.and (ownFrom_pure _ _) (ownFrom_below (Nat.le_refl _) (Nat.le_refl _)))
    (fun c => OwnFrom.and (fun pre X Y row hs hg hr => by
        obtain ⟨h1, x, pre0, h2, h3, h4, h5⟩ := hs
        exact ⟨h1, x, pre0, h2, h3, h4, blk_own (β := Unit) (w.heap.size + 1) 184 (fun _ => (bytesV x.1.2.2).toArray) () X Y row h5 hg (fun r e => (hr r e).2)⟩) (ownFrom_below (Nat.le_refl _) (by omega)))
    ⟨fun x hx => by simp at hx, Below.refl _ _⟩
    (fun x a' W => ∃ Bx, W0.heap.size ≤ Bx ∧ Blk W Bx 218 (wArr x.1.2) ∧ a' = { tmps := #[.pointer (some ⟨g, 0, none⟩), .int .i64 i, undef, .pointer (some ⟨w.heap.size, 0, none⟩), .pointer (some ⟨w.heap.size + 1, 0, none⟩), undef, .pointer (some ⟨Bx, 0, none⟩), .pointer (some ⟨g, 0, none⟩), .pointer (some ⟨g, 0, none⟩), .pointer (some ⟨g, 1, none⟩), .slice A d.L.length c, .func (.func 210) #[] #[.pointer (some ⟨w.heap.size + 1 + 1, 0, none⟩)], .int .i64 (x.1.1 : Int), .agg (wArr x.1.2), undef, undef, undef, undef, undef, undef, undef, undef, undef, undef, undef, undef, undef], defers := [] })
    (fun x a' _ X Y row hs hg hr => by obtain ⟨Bx, h1, h2, h3⟩ := hs; exact ⟨Bx, h1, blk_own Bx 218 (fun (_ : Unit) => wArr x.1.2) () X Y row h2 hg (fun r e => (hr r e).2), h3⟩)
    ?assign ?body ?done ?stop
  case assign =>
    rintro l pre x W K ⟨hn, hB⟩ hK
    have hst := stWr_run W zw (wArr x.1.2) zw_size wArr_size (all_oneCell_toArray (wcell_one x.1.2))
    unfold encW
    gi_wp2
    exact hK _ _ ((KeepsOthers.alloc _ _).from _) ((Below.refl _ W).alloc hB.size _) ⟨hn, hB.alloc hB.size _⟩ ⟨W.heap.size, hB.size, Blk.new W _ _, rfl⟩
  case body =>
    rintro l pre x a' W hl ⟨rr, hrr⟩ ⟨hn, hB⟩ ⟨Bx, hBx, bX, rfl⟩ hlt
    have bI1 : Blk W w.heap.size 3 #[.int .i64 i] := (hB.block _ bI.lt).trans bI
    have bR1 : Blk W (w.heap.size + 1) 184 za := (hB.block _ bR.lt).trans bR
    have cI := row_cell bI1 0
    simp at cI
    have cX : W.cell? ⟨Bx, 0, none⟩ = some (.int .i64 (x.1.2.1 : Int)) := row_cell bX 0
    have hB1 : Below w.heap.size w W := hB0.trans (hB.mono (by omega))
    by_cases hx : x.1.2.1 = i
    · have hq : ((x.1.2.1 : Int) == (i : Int)) = true := by rw [hx]; exact beq_self_eq_true _
      have hra : W.rangeAt Bx 1 (bytesV x.1.2.2) := fun j v hv => by
        rw [row_cell bX (1 + j), wArr, Nat.add_comm]
        simpa [wcell] using hv
      have hld := ldArr_run hra x.2
      have hst := stArr_run bR1 za_size (cs' := (bytesV x.1.2.2).toArray) (by simp [bytes_length, x.2]) (all_oneCell_toArray (bytes_one _))
      have Hx := Lib.hid hx; clear hx
      gi_wp2
      exact ⟨KeepsFrom.of_grownBy (row := some (w.heap.size + 1)) ⟨rfl, rfl, rfl, by simp, fun k _ hk => setRow_other W _ k _ (fun e => hk (by rw [e]))⟩ (fun j e => by cases e; omega),
        ⟨rfl, x, pre, rfl, hn, Hx.out, setRow_heap W _ _ _ _ _ bR1⟩, below_setRow hB1 (by omega) _⟩
    · have hq : ((x.1.2.1 : Int) == (i : Int)) = false := by rw [beq_eq_false_iff_ne]; omega
      have Hx := Lib.hid hx; clear hx
      gi_wp2
      exact ⟨KeepsFrom.refl _ _, Below.refl _ _, fun y hy => by
        simp only [List.mem_append, List.mem_singleton] at hy
        rcases hy with hy | rfl
        · exact hn y hy
        · exact Hx.out, hB⟩
  case done =>
    rintro D zs W hD rfl ⟨hn, hB⟩ hK
    have hnew := newest_none hL64 (S := d.S) hn
    have bI1 : Blk W w.heap.size 3 #[.int .i64 i] := (hB.block _ bI.lt).trans bI
    have bR1 : Blk W (w.heap.size + 1) 184 za := (hB.block _ bR.lt).trans bR
    have hB1 : Below w.heap.size w W := hB0.trans (hB.mono (by omega))
    have cI := row_cell bI1 0
    simp at cI
    have g0 : W.cell? ⟨g, 0, none⟩ = some (.slice (some ⟨s, 0, none⟩) d.n d.n) := by rw [hB1.cell (p := ⟨g, 0, none⟩) hgl]; exact c0
    have hra : W.rangeAt s (i * 64) (bytesV (sec d.S i)) := fun j v hv => by
      rw [hB1.cell (p := ⟨s, i * 64 + j, none⟩) Hlt.out.2.1, row_cell HS.out (i * 64 + j)]
      rw [bytesV, List.getElem?_map] at hv
      cases hx : (sec d.S i)[j]? with
      | none => rw [hx] at hv; cases hv
      | some x =>
        rw [hx] at hv
        have h2 := sec_at hx
        rw [Nat.mul_comm 64] at h2
        simp only [bytesV, List.getElem?_toArray, List.getElem?_map, h2]
        exact hv
    have hs64 : (sec d.S i).length = 64 := sec_length Hok.out.S hi
    have hld := ldArr_run hra hs64
    have hld2 := ldArr_run (w := W.drew) hra hs64
    have hst := stArr_run (w := W.drew) bR1 za_size (cs' := (bytesV (sec d.S i)).toArray) (by simp [bytes_length, hs64]) (all_oneCell_toArray (bytes_one _))
    have i0 : (0 : Int) ≤ (i : Int) := by omega
    have i1 : (i : Int) < (d.n : Int) := by omega
    have HK := Lib.hid hK; clear hK
    gi_wp2
    refine wpIn_wide.2 ?_
    go_still_tail 7, (by kernel_rfl)
    change wpList _ _ _ _ _ W.drew
    go_wp2
    change Code.wpIn Fence.wide 9 Tryz.prog Code.ret _ _ _
    gi_wp2
    refine ⟨by simp, .inl ⟨_, _, rfl, run_takeDeferred (b := D) (w := W.drew.setRow (w.heap.size + 1) (bytesV (sec d.S i)).toArray) ((setRow_other _ _ _ _ (by omega)).trans HK.out), ?_⟩⟩
    have bR2 : (W.drew.setRow (w.heap.size + 1) (bytesV (sec d.S i)).toArray).heap[w.heap.size + 1]? = some (.cells (bytesV (sec d.S i)).toArray 184 (0, 0)) := setRow_heap W.drew _ _ _ _ _ bR1
    rw [hnew]
    refine ⟨_, results_cell_row rfl _ _ _ _ _ _ _ rfl ((World.putObj_heap_other (by omega)).trans bR2) arr_und rfl (by rw [arr_size]; simp [bytes_length, hs64]), rfl, ?_⟩
    exact (below_setRow hB1.drew (by omega) _).trans (belowK_b (w := w) (Nat.le_refl _) _ D _ _ (by omega) ((setRow_other _ _ _ _ (by omega)).trans HK.out) rfl rfl)
  case stop =>
    rintro D c pre W hD ⟨k, hk, hp⟩ ⟨⟨rfl, x, pre0, hp2, hn, hx, bX⟩, hB⟩ hK
    subst hp2
    have hnew := newest_some hL64 (S := d.S) hk hp.symm hn hx
    gi_wp2
    refine ⟨by simp, .inl ⟨_, _, rfl, run_takeDeferred hK, ?_⟩⟩
    rw [hnew]
    refine ⟨_, results_cell_row rfl _ _ _ _ _ _ _ rfl ((World.putObj_heap_other (by omega)).trans bX) arr_und rfl (by rw [arr_size]; simp [bytes_length, x.2]), rfl, ?_⟩
    exact hB.trans (belowK_b (w := w) (Nat.le_refl _) W D _ _ (by omega) hK rfl rfl)

theorem Read_down (B g s : Nat) (r : Option Nat) (d : Dv) (i : Int) (w : World) (h : IsD w B g s r d) (hd : d.down = true) :
    Calls Tryz.prog 59 #[.pointer (some ⟨g, 0, none⟩), .int .i64 i] w fun e w' => e = .returned (.tuple #[.slice none 0 0, .int .i64 17]) ∧ w = w' := by
  obtain ⟨hok, hBg, hBs, hgs, hrg, hrs, hS, A, c, hh, hown, hr⟩ := h
  have c3 : w.cell? ⟨g, 3, none⟩ = some (.bool d.down) := row_cell hh 3
  rw [hd] at c3
  clear hS hown hr hh hok
  go_enter Tryz.func59, Tryz.ntmps59
  go_wp2
  go_ret2
  exact ⟨rfl, rfl⟩

theorem Read_arg (B g s : Nat) (r : Option Nat) (d : Dv) (i : Int) (w : World) (h : IsD w B g s r d) (hd : d.down = false) (hi : d.has i = false) :
    Calls Tryz.prog 59 #[.pointer (some ⟨g, 0, none⟩), .int .i64 i] w fun e w' => e = .returned (.tuple #[.slice none 0 0, .int .i64 1]) ∧ w = w' := by
  have H := Lib.hid h
  have Hi := Lib.hid hi; clear hi
  obtain ⟨hok, hBg, hBs, hgs, hrg, hrs, hS, A, c, hh, hown, hr⟩ := h
  have c3 : w.cell? ⟨g, 3, none⟩ = some (.bool d.down) := row_cell hh 3
  rw [hd] at c3
  clear hS hown hr hh hok
  go_enter Tryz.func59, Tryz.ntmps59
  go_wp2_with (go_at_call 118; refine (has_any B g s r d i _ H.out).mono ?_; rw [Hi.out]; rintro e w2 ⟨rfl, rfl⟩)
  go_ret2
  exact ⟨rfl, rfl⟩

theorem Read_any (B g s : Nat) (r : Option Nat) (d : Dv) (i : Nat) (w : World) (h : IsD w B g s r d) (hL : d.L.length ≤ 1000000) (hd : d.down = false) (hi : i < d.n) :
    Calls Tryz.prog 59 #[.pointer (some ⟨g, 0, none⟩), .int .i64 i] w fun e w' => ∃ b, e = .returned (.tuple #[.slice (some ⟨b, 0, none⟩) 64 64, .int .i64 0]) ∧ w.heap.size ≤ b ∧ Blk w' b 184 (bytesV (newest d.L d.S i)).toArray ∧ Below w.heap.size w w' := by
  have H := Lib.hid h
  have hhas : d.has i = true := by unfold Dv.has; rw [decide_eq_true_iff]; omega
  have Hhas := Lib.hid hhas; clear hhas
  have h64 : (newest d.L d.S i).length = 64 := newest_length h.ok.S h.ok.L hi
  obtain ⟨hok, hBg, hBs, hgs, hrg, hrs, hS, A, c, hh, hown, hr⟩ := h
  have c3 : w.cell? ⟨g, 3, none⟩ = some (.bool d.down) := row_cell hh 3
  rw [hd] at c3
  clear hS hown hr hh hok
  obtain ⟨arr, harr⟩ : ∃ arr, (bytesV (newest d.L d.S i)).toArray = arr := ⟨_, rfl⟩
  have hsz : arr.size = 64 := by rw [← harr]; simp [bytes_length, h64]
  have h1 : arr.all (·.oneCell') = true := by rw [← harr]; exact all_oneCell_toArray (bytes_one _)
  rw [harr]
  have hst : ∀ w1 : World, (stArr (.pointer (some ⟨w1.heap.size, 0, none⟩)) (.agg arr)).run Tryz.prog (w1.alloc (.cells za 184)) = .ok () (w1.alloc (.cells arr 184)) := fun w1 =>
    run_storeAt_new w1 _ za arr (by rw [arr_size, hsz]) (by rw [za_size, hsz]) h1
  have hZ := za_run
  have Harr := Lib.hid harr; clear harr h1 hsz h64
  go_enter Tryz.func59, Tryz.ntmps59
  go_wp2_with (first | (go_at_call 118; refine (has_any B g s r d i _ H.out).mono ?_; rw [Hhas.out]; rintro e w2 ⟨rfl, rfl⟩) | (go_at_call 119; refine (newest_any B g s r d i _ H.out hL hi).mono ?_; rw [Harr.out]; rintro e w1 ⟨rfl, hb1⟩; have Hb1 := Lib.hid hb1; clear hb1))
  go_ret2
  exact ⟨w1.heap.size, rfl, Hb1.out.size, Blk.new w1 _ _, Hb1.out.alloc Hb1.out.size _⟩
theorem Blk.seen {w : World} {b : Nat} {t : TypeId} {bs : List UInt8} (h : Blk w b t (bytesV bs).toArray) : Seen w (some ⟨b, 0, none⟩) (bytesV bs) := by
  have := Seen.of_cells (w := w) (g := b) (t := t) (fr := (0, 0)) h
  simpa using this
theorem Blk.below {w w' : World} {b : Nat} {t : TypeId} {cs : Array Value} (h : Blk w b t cs) (hb : Below w.heap.size w w') : Blk w' b t cs := (hb.block b h.lt).trans h
end Go.Proofs.YtdlgihgdpdiglaaGreat
end

section
namespace Go.Proofs.YtdlgihgdpdiglaaGreat
open Go.ChangeShapes Go.WideShapes Go.ChangeAt Go.RowKit
set_option linter.unusedVariables false

theorem run_arr (a : Option Addr) (c : Nat) (w : World) : (Instr.arrayAt 184 (.slice a 64 c)).run Tryz.prog w = .ok (.pointer a) w := by
  simp [Instr.arrayAt, run_underlying arr_und]

theorem z65_size : z65.cells.size = 65 := zw_size
theorem zw_ne : ¬ zw = #[] := fun e => by have := zw_size; rw [e] at this; cases this
theorem fold_set (cs : List Value) : ∀ (k : Nat) (Z : Array Value) (pre : List Value), pre.length = 1 + k → pre.length + cs.length = Z.size → Z.toList.take pre.length = pre →
    (List.foldl (fun (cs : Array Value) (x : Value × Nat) => cs.setIfInBounds (1 + x.snd) x.fst) Z (cs.zipIdx k)) = (pre ++ cs).toArray := by
  induction cs with
  | nil =>
    intro k Z pre h1 h2 h3
    simp only [List.zipIdx_nil, List.foldl_nil, List.append_nil]
    rw [List.take_of_length_le (by simp at h2 ⊢; omega)] at h3
    rw [← h3]
  | cons c cs ih =>
    intro k Z pre h1 h2 h3
    simp only [List.zipIdx_cons, List.foldl_cons]
    rw [ih (k + 1) (Z.setIfInBounds (1 + k) c) (pre ++ [c]) (by simp; omega) (by simp at h2 ⊢; omega) ?_]
    · simp
    · rw [Array.toList_setIfInBounds, List.length_append, List.length_singleton, List.take_succ_eq_append_getElem (by simp at h2 ⊢; omega)]
      rw [List.take_set_of_le (by omega), h3]
      congr 1
      simp [h1]
theorem zw_fold (i : Int) (cs : List Value) (h : cs.length = 64) : (List.foldl (fun (cs : Array Value) (x : Value × Nat) => cs.setIfInBounds (1 + x.snd) x.fst) (zw.setIfInBounds 0 (.int .i64 i)) cs.zipIdx) = (.int .i64 i :: cs).toArray := by
  refine (fold_set cs 0 _ [.int .i64 i] rfl (by simp [zw_size, h]) ?_).trans rfl
  simp [zw]

/-- a slice of one write, made: behind a name, so that no walk opens it -/
def oneWrite (parts : Array (Nat × Value)) : Sem Value := Instr.buildSlice 77 1 parts
theorem oneWrite_eq (parts : Array (Nat × Value)) : Instr.buildSlice 77 1 parts = oneWrite parts := rfl
theorem fold_all (cs : List Value) : ∀ (k : Nat) (Z : Array Value) (pre : List Value), pre.length = k → pre.length + cs.length = Z.size → Z.toList.take pre.length = pre →
    (List.foldl (fun (cs : Array Value) (x : Value × Nat) => cs.setIfInBounds x.snd x.fst) Z (cs.zipIdx k)) = (pre ++ cs).toArray := by
  induction cs with
  | nil =>
    intro k Z pre h1 h2 h3
    simp only [List.zipIdx_nil, List.foldl_nil, List.append_nil]
    rw [List.take_of_length_le (by simp at h2 ⊢; omega)] at h3
    rw [← h3]
  | cons c cs ih =>
    intro k Z pre h1 h2 h3
    simp only [List.zipIdx_cons, List.foldl_cons]
    rw [ih (k + 1) (Z.setIfInBounds k c) (pre ++ [c]) (by simp; omega) (by simp at h2 ⊢; omega) ?_]
    · simp
    · rw [Array.toList_setIfInBounds, List.length_append, List.length_singleton, List.take_succ_eq_append_getElem (by simp at h2 ⊢; omega)]
      rw [List.take_set_of_le (by omega), h3]
      congr 1
      simp [h1]
theorem fill_one (Z cells : Array Value) (hZ : Z.size = 65) (h : cells.size = 65) : Instr.fill (fun i => some (i * 65, 65)) Z [(0, .agg cells)] = some cells := by
  have hf := fold_all cells.toList 0 Z [] rfl (by simp [h, hZ]) rfl
  have hg : Array.foldl (fun (cs : Array Value) (x : Value × Nat) => cs.setIfInBounds x.2 x.1) Z cells.zipIdx = cells := by
    rw [← Array.foldl_toList]
    simpa using hf
  have e1 : (Value.agg cells).cells = cells := rfl
  have hs : cells.zipIdx.size = 65 := by simp [h]
  rw [hs] at hg
  simp [Instr.fill, e1, h, hZ]
  exact hg
theorem oneWrite_run (cells : Array Value) (h : cells.size = 65) (w : World) : (oneWrite #[(0, .agg cells)]).run Tryz.prog w = .ok (.slice (some ⟨w.heap.size, 0, none⟩) 1 1) (w.alloc (.cells cells 218)) := by
  unfold oneWrite Instr.buildSlice
  obtain ⟨i, hi, hs⟩ := Option.map_eq_some_iff.1 wr_size
  have hz : (sizeOf 218).run Tryz.prog w = .ok 65 w := by simp [sizeOf, typeInfo, hi, hs]
  simp only [Sem.run_bind, run_underlying Tryz.underlying77, Result.andThen_ok, hz]
  rw [if_neg (by omega), if_neg (by omega)]
  simp only [Sem.run_bind, zw_run, Result.andThen_ok, Sem.run_pure, Value.cells]
  rw [show 1 * 65 = 65 from rfl, fill_one _ cells (by simp) h]
  simp [newRow]
attribute [local go_sem ↓] oneWrite_eq ldArr_eq

/-- an append to the device's writes, stored back -/
theorem MovedD.app {w w1 : World} {B g s : Nat} {r : Option Nat} {d : Dv} {p : Nat × List UInt8} {A : Option Addr} {c k cap : Nat} (h : IsD w B g s r d) (hp : p.1 < d.n ∧ p.2.length = 64)
    (hh : w.heap[g]? = some (.cells #[.slice (some ⟨s, 0, none⟩) d.n d.n, .slice A d.L.length c, .int .i64 d.fuse, .bool d.down] 79 (0, 0)))
    (hr : (Value.slice A d.L.length c).ownBlock = r) {w0 : World} (h0 : Below w.heap.size w w0) (hg : w0.grownBy w1 (Value.slice A d.L.length c).ownBlock) (hat : (Value.slice A d.L.length c).ownBlock = some k ∨ k = w.heap.size ∨ k = w0.heap.size)
    (hown : w1.ownsRow B 218 65 (.slice (some ⟨k, 0, none⟩) (d.L.length + 1) cap) (d.L.length + 1) (wcells d.L ++ wcell p)) :
    MovedD B g s r { d with L := d.L ++ [p] } w (w1.setCell ⟨g, 1, none⟩ (.slice (some ⟨k, 0, none⟩) (d.L.length + 1) cap)) := by
  have hl := h.lt
  obtain ⟨h1, h2, h3, h4, h5, h6, h7, _, _, _, _, _⟩ := h
  have hkw : (Value.slice A d.L.length c).ownBlock = some k ∨ w.heap.size ≤ k := by
    rcases hat with e | e | e
    · exact .inl e
    · exact .inr (by omega)
    · exact .inr (by have := h0.size; omega)
  have hkg : k ≠ g := fun e => by
    subst e
    rcases hkw with e | e
    · exact h5 (by rw [← hr, e])
    · omega
  have hks : k ≠ s := fun e => by
    subst e
    rcases hkw with e | e
    · exact h6 (by rw [← hr, e])
    · omega
  have t1 : Turned (fun k => k = g ∨ k = s ∨ r = some k) w w1 := (Turned.of_below h0 (p := fun k => k = g ∨ k = s ∨ r = some k)).trans (Turned.of_grown hg (p := fun k => (Value.slice A d.L.length c).ownBlock = some k) fun k hk => hk) (fun _ e => e) (fun _ _ e => .inr (.inr (by rw [← hr]; exact e)))
  have hw1 : w1.heap[g]? = some (.cells #[.slice (some ⟨s, 0, none⟩) d.n d.n, .slice A d.L.length c, .int .i64 d.fuse, .bool d.down] 79 (0, 0)) := by
    rw [hg.block g (Nat.lt_of_lt_of_le hl.1 h0.size) (fun e => h5 (by rw [← hr, ← e])), h0.block g hl.1]
    exact hh
  have hs1 : w1.heap[s]? = some (.cells (bytesV d.S).toArray 184 (0, 0)) := by
    rw [hg.block s (Nat.lt_of_lt_of_le hl.2.1 h0.size) (fun e => h6 (by rw [← hr, ← e])), h0.block s hl.2.1]
    exact h7
  have t2 := Turned.setCell (Turned.refl (fun k => k = g) w1) (b := ⟨g, 1, none⟩) (fun _ => rfl) (.slice (some ⟨k, 0, none⟩) (d.L.length + 1) cap)
  refine ⟨some k, ⟨⟨h1.n, h1.S, ?_, h1.lo, h1.hi⟩, h2, h3, h4, by simpa using hkg, by simpa using hks, t2.heap hs1 (fun e => h4 e.symm), some ⟨k, 0, none⟩, cap, ?_, ?_, rfl⟩, fun j hj => ?_, t1.setCell (fun _ => .inl rfl) _⟩
  · intro q hq
    simp only [List.mem_append, List.mem_singleton] at hq
    rcases hq with hq | rfl
    · exact h1.L q hq
    · exact hp
  · rw [row_set hw1, List.length_append]; rfl
  · rw [wcells_snoc, List.length_append]
    exact own65_turned t2 hown fun j hj e => by
      subst e
      injection hj with hj
      exact hkg hj
  · injection hj with hj
    subst hj
    rw [← hr]
    exact hkw

theorem Dv.writeE_down {d : Dv} (h : d.burnt.down = true) (i : Int) (bs : List UInt8) : d.writeE i bs = 16 ∧ d.write i bs = d.burnt := by unfold Dv.writeE Dv.write; rw [if_pos h, if_pos h]; exact ⟨rfl, rfl⟩
theorem Dv.writeE_arg {d : Dv} (h : d.burnt.down = false) {i : Int} {bs : List UInt8} (hi : ¬ (0 ≤ i ∧ i < d.n ∧ bs.length = 64)) : d.writeE i bs = 1 ∧ d.write i bs = d.burnt := by
  have h' : ¬ d.burnt.down = true := by rw [h]; simp
  unfold Dv.writeE Dv.write; rw [if_neg h', if_neg h', if_neg hi, if_neg hi]; exact ⟨rfl, rfl⟩
theorem Dv.writeE_ok {d : Dv} (h : d.burnt.down = false) {i : Int} {bs : List UInt8} (hi : 0 ≤ i ∧ i < d.n ∧ bs.length = 64) : d.writeE i bs = 0 ∧ d.write i bs = { d.burnt with L := d.burnt.L ++ [(i.toNat, bs)] } := by
  have h' : ¬ d.burnt.down = true := by rw [h]; simp
  unfold Dv.writeE Dv.write; rw [if_neg h', if_neg h', if_pos hi, if_pos hi, Dv.burnt_L]; exact ⟨rfl, rfl⟩

theorem cell_one (i : Int) (bs : List UInt8) : ∀ u ∈ (Value.int .i64 i :: bytesV bs).toArray.toList, u.oneCell' = true := by
  intro u hu
  simp only [List.mem_cons] at hu
  rcases hu with rfl | hu
  · rfl
  · exact bytes_one _ u hu
theorem hold_g {w w0 w' : World} {g gb ob : Nat} {bs : List UInt8} {v : Value} {row : Option Nat} (hb : Below w.heap.size w w0) (hg : w0.grownBy w' row) (c1 : w.cell? ⟨g, 1, none⟩ = some v) (f1 : w.frozen? ⟨g, 1, none⟩ = false) (hr : w.rangeAt gb ob (bytesV bs)) (h1 : row ≠ some g) (h2 : row ≠ some gb) :
    w'.cell? ⟨g, 1, none⟩ = some v ∧ w'.frozen? ⟨g, 1, none⟩ = false ∧ w'.rangeAt gb ob (bytesV bs) := by
  have hlt := World.block_lt_of_cell? w _ c1
  have hs := hb.size
  refine ⟨?_, ?_, fun j v hv => ?_⟩
  · rw [hg.cell_far ⟨g, 1, none⟩ (by show g < _; simp at hlt; omega) (Ne.symm h1), hb.cell (p := ⟨g, 1, none⟩) hlt]; exact c1
  · rw [hg.frozen_far ⟨g, 1, none⟩ (by show g < _; simp at hlt; omega) (Ne.symm h1), hb.frozen (p := ⟨g, 1, none⟩) hlt]; exact f1
  · have := hr j v hv
    have hl2 := World.block_lt_of_cell? w _ this
    rw [hg.cell_far ⟨gb, ob + j, none⟩ (by show gb < _; simp at hl2; omega) (Ne.symm h2), hb.cell (p := ⟨gb, ob + j, none⟩) hl2]
    exact this

theorem hold_w {w w' : World} {g gb ob : Nat} {bs : List UInt8} {v : Value} (hb : Below w.heap.size w w') (c1 : w.cell? ⟨g, 1, none⟩ = some v) (f1 : w.frozen? ⟨g, 1, none⟩ = false) (hr : w.rangeAt gb ob (bytesV bs)) :
    w'.cell? ⟨g, 1, none⟩ = some v ∧ w'.frozen? ⟨g, 1, none⟩ = false ∧ w'.rangeAt gb ob (bytesV bs) := by
  have hlt := World.block_lt_of_cell? w _ c1
  refine ⟨by rw [hb.cell (p := ⟨g, 1, none⟩) hlt]; exact c1, by rw [hb.frozen (p := ⟨g, 1, none⟩) hlt]; exact f1, fun j v hv => ?_⟩
  have := hr j v hv
  rw [hb.cell (p := ⟨gb, ob + j, none⟩) (World.block_lt_of_cell? w _ this)]
  exact this

set_option maxRecDepth 100000 in
set_option maxHeartbeats 1600000 in
theorem Write_any (B g s : Nat) (r : Option Nat) (d : Dv) (i : Int) (A2 : Option Addr) (m c2 : Nat) (bs : List UInt8) (w : World) (h : IsD w B g s r d) (hL : d.L.length < 1000000) (hi1 : -9223372036854775808 ≤ i) (hi2 : i ≤ 9223372036854775807)
    (hm : bs.length = m) (hmm : m ≤ 1000000) (hBw : B ≤ w.heap.size) (hs : Seen w A2 (bytesV bs)) (hap : ∀ gb ob, A2 = some ⟨gb, ob, none⟩ → gb ≠ g ∧ gb ≠ s ∧ r ≠ some gb) :
    Calls Tryz.prog 130 #[.pointer (some ⟨g, 0, none⟩), .int .i64 i, .slice A2 m c2] w fun e w' => e = .returned (.int .i64 (d.writeE i bs : Int)) ∧ MovedD B g s r (d.write i bs) w w' := by
  have H := Lib.hid h; clear h
  have Hs := Lib.hid hs; clear hs
  have Hap := Lib.hid hap; clear hap
  have Hm := Lib.hid hm; clear hm
  have HL := Lib.hid hL; clear hL
  obtain ⟨we, hwe⟩ : ∃ we, d.writeE i bs = we := ⟨_, rfl⟩
  rw [hwe]
  have Hwe := Lib.hid hwe; clear hwe
  obtain ⟨d1, hd1⟩ : ∃ d1, d.burnt = d1 := ⟨_, rfl⟩
  have Hd1 := Lib.hid hd1
  cases hdn : d1.down with
  | true =>
    obtain ⟨e1, e2⟩ := Dv.writeE_down (d := d) (by rw [hd1]; exact hdn) i bs
    rw [Hwe.out] at e1
    subst e1
    have E2 := Lib.hid e2; clear e2 hd1
    have Hdn := Lib.hid hdn; clear hdn
    go_enter Tryz.func130, Tryz.ntmps130
    go_wp2_with (go_at_call 187; refine (burn_any B g s r d w H.out).mono ?_; rw [Hd1.out, Hdn.out]; rintro e w1 ⟨rfl, hmv⟩; have Hmv := Lib.hid hmv; clear hmv)
    go_ret
    rw [E2.out, Hd1.out]
    exact ⟨rfl, Hmv.out⟩
  | false =>
    have hn1 : d1.n = d.n := by rw [← hd1]; exact Dv.burnt_n d
    have hL1 : d1.L = d.L := by rw [← hd1]; exact Dv.burnt_L d
    by_cases hok : 0 ≤ i ∧ i < d.n ∧ m = 64
    · obtain ⟨e1, e2⟩ := Dv.writeE_ok (d := d) (by rw [hd1]; exact hdn) (i := i) (bs := bs) (by rw [Hm.out]; exact hok)
      rw [Hwe.out] at e1
      subst e1
      have E2 := Lib.hid e2; clear e2 hd1
      have Hdn := Lib.hid hdn; clear hdn
      have hhas : d1.has i = true := by unfold Dv.has; rw [decide_eq_true_iff, hn1]; exact ⟨hok.1, hok.2.1⟩
      have Hhas := Lib.hid hhas; clear hhas
      have hm64 := hok.2.2
      subst hm64
      have hp : i.toNat < d1.n ∧ bs.length = 64 := ⟨by rw [hn1]; omega, Hm.out⟩
      have hiN : ((i.toNat : Nat) : Int) = i := by omega
      have Hp := Lib.hid hp; clear hp
      have HiN := Lib.hid hiN; clear hiN
      have hL1m : d1.L.length < 1000000 := by rw [hL1]; exact HL.out
      have HL1 := Lib.hid hL1m; clear hL1m
      clear hn1 hL1 hok
      obtain ⟨i0, hi0, hz0, hz1, hz2⟩ := info_parts wr_info
      have Hi0 := Lib.hid (And.intro hi0 (And.intro hz0 (And.intro hz1 hz2)))
      clear hi0 hz0 hz1 hz2
      go_enter Tryz.func130, Tryz.ntmps130
      go_wp2_with (first | (go_at_call 187; refine (burn_any B g s r d w H.out).mono ?_; rw [Hd1.out, Hdn.out]; rintro e w1 ⟨rfl, hmv⟩; have Hmv := Lib.hid hmv; obtain ⟨r1, hd1, hrr, htt⟩ := hmv; have Hd := Lib.hid hd1; have Hrr := Lib.hid hrr; have Htt := Lib.hid htt; clear hd1 hrr htt) | (go_at_call 118; refine (has_any B g s r1 d1 i w1 Hd.out).mono ?_; rw [Hhas.out]; rintro e w2 ⟨rfl, rfl⟩))
      have hse : ∃ gb ob, A2 = some ⟨gb, ob, none⟩ ∧ w1.rangeAt gb ob (bytesV bs) ∧ gb ≠ g ∧ r1 ≠ some gb := by
        rcases Hs.out with e | ⟨gb, ob, hA, hc⟩
        · have := congrArg List.length e
          rw [bytes_length, Hm.out] at this
          cases this
        · obtain ⟨a1, a2, a3⟩ := Hap.out gb ob hA
          have hlt : gb < w.heap.size := by
            have h0 : (bytesV bs)[0]? = some ((bytesV bs)[0]'(by rw [bytes_length, Hm.out]; omega)) := List.getElem?_eq_getElem _
            exact World.block_lt_of_cell? w _ (hc 0 _ h0)
          refine ⟨gb, ob, hA, fun k v hv => Htt.out.cell (hc k v hv) ?_, a1, fun e => ?_⟩
          · rintro (e | e | e)
            · exact a1 e
            · exact a2 e
            · exact a3 e
          · rcases Hrr.out gb e with e | e
            · exact a3 e
            · omega
      obtain ⟨gb, ob, rfl, hra, hag, har⟩ := hse
      have Hag := Lib.hid (And.intro hag har); clear hag har
      have hbl : (bytesV bs).length = 64 := by rw [bytes_length]; exact Hm.out
      have hd1 := Hd.out
      obtain ⟨hok, hBg, hBs, hgs, hrg, hrs, hS, A, c, hh, hown, hr1⟩ := hd1
      have c1 : w1.cell? ⟨g, 1, none⟩ = some (.slice A d1.L.length c) := row_cell hh 1
      have f1 := row_frozen hh 1
      have Hh := Lib.hid hh; have Hown := Lib.hid hown; have Hr1 := Lib.hid hr1; have Hrg := Lib.hid hrg
      have Hsz := Lib.hid (show B ≤ w1.heap.size from Nat.le_trans hBw Htt.out.size)
      clear hok hS hh hown hr1 hgs hrg hrs
      have hArr := run_arr
      have hU := arr_und
      have hZ := zw_run
      have hZ1 := zw_size
      have hZ2 := zw_ne
      have hZ3 := zw_fold i (bytesV bs) hbl
      obtain ⟨cells, hcells⟩ : ∃ cells, (Value.int .i64 i :: bytesV bs).toArray = cells := ⟨_, rfl⟩
      rw [hcells] at hZ3
      have hc65 : cells.size = 65 := by rw [← hcells]; simp [hbl]
      have hone : ∀ u ∈ cells.toList, u.oneCell' = true := by rw [← hcells]; exact cell_one i bs
      have Hone := Lib.hid hone; clear hone
      have HownA := Lib.hid ((Hown.out.alloc (.cells cells 218)).drew)
      have Hnews := Lib.hid (World.news_of_block (w := (w1.alloc (.cells cells 218)).drew) (B := w1.heap.size) (cs := cells) (heap_alloc_new w1 _))
      have Hlen := Lib.hid (show cells.toList.length = 1 * 65 by rw [Array.length_toList, hc65])
      have Hb1 := Lib.hid (show d1.L.length + 1 ≤ maxLen by have := HL1.out; unfold maxLen; omega)
      have Hb2 := Lib.hid (show (d1.L.length + 1) * 72 ≤ 140737488355328 by have := HL1.out; omega)
      have HszA := Lib.hid (show B ≤ (w1.alloc (.cells cells 218)).drew.heap.size by have := Hsz.out; simp; omega)
      have HH := Lib.hid (show (w1.alloc (.cells cells 218)).drew.heap.size = w1.heap.size + 1 by simp)
      have Hcells := Lib.hid hcells; clear hcells
      have hZ4 := oneWrite_run cells hc65
      have hI : (Tryz.prog.info? 184).map (·.size) = some (bytesV bs).length := by rw [hbl]; exact arr_size
      have hLd := ldArr_run (w := w1.drew) (by simpa using hra) Hm.out
      have hca := (hold_w ((Below.refl _ _).alloc (Nat.le_refl _) (.cells cells 218)) c1 f1 hra).1
      go_region_law((refine step_append_lies _ (by rfl) (.tmp 25) (.tmp 31) _ (by rfl) B 218 i0 z65 65 72 Tryz.underlying77 Hi0.out.1 Hi0.out.2.1 Hi0.out.2.2.1 Hi0.out.2.2.2 z65_size (by omega) (.slice A d1.L.length c) d1.L.length (wcells d1.L) (by rfl) HownA.out ⟨w1.heap.size, 0, none⟩ 1 1 cells.toList (by rfl) Hlen.out Hnews.out Hone.out (by omega) Hb1.out Hb2.out HszA.out (w1.heap.size + 1) HH.out ?_; intro k2 cap2 w2 hown2 hgrow2 hat2 hlt2; have hcf := hold_g ((Below.refl _ _).alloc (Nat.le_refl _) (.cells cells 218)).drew hgrow2 c1 f1 hra (by rw [Hr1.out]; exact Hrg.out) (by rw [Hr1.out]; exact Hag.out.2); have hcc2 := hcf.1; have hff2 := hcf.2.1; clear hcf; have Hown2 := Lib.hid hown2; have Hgrow2 := Lib.hid hgrow2; have Hat2 := Lib.hid hat2; clear hown2 hgrow2 hat2))
      all_goals
        go_wp2
        go_ret
        rw [E2.out, Hd1.out]
        refine ⟨rfl, MovedD.step Hrr.out Htt.out ?_⟩
        refine MovedD.app (p := (i.toNat, bs)) Hd.out Hp.out Hh.out Hr1.out ((Below.refl _ _).alloc (Nat.le_refl _) (.cells cells 218)).drew Hgrow2.out ?_ ?_
        · rcases Hat2.out with e | e
          · exact .inl e
          · exact .inr (.inr (by rw [e]; simp))
        · have := Hown2.out
          rw [← Hcells.out] at this
          unfold wcell
          rw [HiN.out]
          exact this
    · obtain ⟨e1, e2⟩ := Dv.writeE_arg (d := d) (by rw [hd1]; exact hdn) (i := i) (bs := bs) (by rw [Hm.out]; exact hok)
      rw [Hwe.out] at e1
      subst e1
      have E2 := Lib.hid e2; clear e2 hd1
      have Hdn := Lib.hid hdn; clear hdn
      cases hhas : d1.has i with
      | false =>
        have Hhas := Lib.hid hhas; clear hhas
        clear hn1 hL1
        go_enter Tryz.func130, Tryz.ntmps130
        go_wp2_with (first | (go_at_call 187; refine (burn_any B g s r d w H.out).mono ?_; rw [Hd1.out, Hdn.out]; rintro e w1 ⟨rfl, hmv⟩; have Hmv := Lib.hid hmv; obtain ⟨r1, hd1, _, _⟩ := hmv; have Hd := Lib.hid hd1; clear hd1) | (go_at_call 118; refine (has_any B g s r1 d1 i w1 Hd.out).mono ?_; rw [Hhas.out]; rintro e w2 ⟨rfl, rfl⟩))
        go_ret
        rw [E2.out, Hd1.out]
        exact ⟨rfl, Hmv.out⟩
      | true =>
        have hm64 : ¬ m = 64 := fun e => hok (by
          unfold Dv.has at hhas
          have := of_decide_eq_true hhas
          rw [hn1] at this
          exact ⟨this.1, this.2, e⟩)
        have hm64' : ((m : Int) != 64) = true := by simp; omega
        have Hhas := Lib.hid hhas; clear hhas hm64
        clear hn1 hL1 hok
        go_enter Tryz.func130, Tryz.ntmps130
        go_wp2_with (first | (go_at_call 187; refine (burn_any B g s r d w H.out).mono ?_; rw [Hd1.out, Hdn.out]; rintro e w1 ⟨rfl, hmv⟩; have Hmv := Lib.hid hmv; obtain ⟨r1, hd1, _, _⟩ := hmv; have Hd := Lib.hid hd1; clear hd1) | (go_at_call 118; refine (has_any B g s r1 d1 i w1 Hd.out).mono ?_; rw [Hhas.out]; rintro e w2 ⟨rfl, rfl⟩))
        go_ret
        rw [E2.out, Hd1.out]
        exact ⟨rfl, Hmv.out⟩
end Go.Proofs.YtdlgihgdpdiglaaGreat
end
