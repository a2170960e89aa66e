/-
  Volumes by definition: chunks, volumes, a state; what each command makes of it. Plain lists and integers. No condition but what each lemma names.
-/
import Derived.Test.YtcaaakoahaoooaaPolMem
namespace Go.Proofs.Ytcaaakoahaoooaa
open Go.ChangeShapes Go.WideShapes Go.ChangeAt Go.RowKit
set_option linter.unusedVariables false

structure Chk where
  id : Int
  vo : Int
  ep : Int
  ms : List Int
  js : List Int
  deriving DecidableEq
structure Vol where
  bl : Int
  p : Pol
  ver : Int
  ks : List Chk
structure St where
  pk : Nat → Int
  vs : Nat → Vol
  md : Int
structure Cmd where
  k : Int
  a : Int
  b : Int
  c : Int
  p : Pol
def pol0 : Pol := ⟨0, 0, 0, 0⟩
def vol0 : Vol := ⟨0, pol0, 0, []⟩
def st0 : St := ⟨fun _ => 0, fun _ => vol0, 0⟩
def setV (s : St) (i : Nat) (v : Vol) : St := { s with vs := fun j => if j = i then v else s.vs j }
theorem setV_same {s : St} {i : Nat} {v : Vol} : (setV s i v).vs i = v := if_pos rfl
theorem setV_other {s : St} {i j : Nat} {v : Vol} (h : j ≠ i) : (setV s i v).vs j = s.vs j := if_neg h
theorem setV_setV {s : St} {i : Nat} {v u : Vol} : setV (setV s i v) i u = setV s i u := by
  unfold setV
  congr 1
  funext j
  simp only
  split <;> rfl
theorem setV_self {s : St} {i : Nat} : setV s i (s.vs i) = s := by
  obtain ⟨pk, vs, md⟩ := s
  unfold setV
  congr 1
  funext j
  simp only
  split
  · rename_i h; rw [h]
  · rfl
def hasK (s : Int) (k : Chk) : Bool := decide (s ∈ k.ms) || decide (s ∈ k.js)
/-- the servers' numbers -/
def serversL (pk : Nat → Int) : List Nat := (List.range 16).filter fun i => decide (0 < pk i)
def polsS (s : St) (sv : Int) : List Pol := ((List.range 64).filter fun i => (s.vs i).ks.any (hasK sv)).map fun i => (s.vs i).p
def admS (s : St) : Bool := (serversL s.pk).all fun i => admitsP (s.pk i) (polsS s i)
def countF (b : Int) : Int := (b + 7) / 8
/-- all who have a chunk, one by one -/
def flatK (l : List Chk) : List Int := l.flatMap fun k => k.ms ++ k.js
def allKs (s : St) (n : Nat) : List Chk := (List.range n).flatMap fun i => (s.vs i).ks
theorem allKs_succ (s : St) (n : Nat) : allKs s (n + 1) = allKs s n ++ (s.vs n).ks := by simp [allKs, List.range_succ]
theorem flatK_append (a b : List Chk) : flatK (a ++ b) = flatK a ++ flatK b := by simp [flatK]
/-- is server a ahead of server b: it has fewer, or as many and a lesser number -/
def fewerB (f : Nat → Nat) (a b : Nat) : Bool := decide (f a < f b) || (decide (f a = f b) && decide (a ≤ b))
def fewF (f : Nat → Nat) (ids : List Nat) (n : Nat) : List Nat := (ids.mergeSort (fewerB f)).take n
def toI (l : List Nat) : List Int := l.map fun (x : Nat) => (x : Int)
/-- n chunks more of a volume, behind those that were made -/
def fillK (ids : List Nat) (vo : Int) (copies : Nat) (md : Int) (hv : List Int) : Nat → List Chk
  | 0 => []
  | n + 1 => fillK ids vo copies md hv n ++ [⟨md + n + 1, vo, 1, toI (fewF (fun i => (hv ++ flatK (fillK ids vo copies md hv n)).count (i : Int)) ids copies), []⟩]
/-- n chunks more -/
def fillQ (s : St) (i : Nat) (copies n : Nat) : St :=
  { setV s i { s.vs i with ks := (s.vs i).ks ++ fillK (serversL s.pk) (i : Int) copies s.md (flatK (allKs s 64)) n } with md := s.md + n }
/-- all that it lacks -/
def fillS (s : St) (i : Nat) (copies : Nat) : St := fillQ s i copies ((countF (s.vs i).bl).toNat - (s.vs i).ks.length)
/-- where a chunk stands -/
def FoundAt (s : St) (id : Int) (i j : Nat) (k : Chk) : Prop := i < 64 ∧ (s.vs i).ks[j]? = some k ∧ k.id = id
def NoChunk (s : St) (id : Int) : Prop := ∀ i, i < 64 → ∀ k ∈ (s.vs i).ks, k.id ≠ id
/-- is there a volume -/
def isVol (s : St) (a : Int) : Bool := decide (0 ≤ a ∧ a ≤ 63) && decide ((s.vs a.toNat).bl ≠ 0)
def isSrv (s : St) (a : Int) : Bool := decide (0 ≤ a ∧ a ≤ 15) && decide (0 < s.pk a.toNat)
def withoutL (l : List Int) (x : Int) : List Int := l.filter fun y => !decide (y = x)
def renewS (s : St) (i j : Nat) (k : Chk) : St := setV s i { s.vs i with ks := (s.vs i).ks.set j { k with ep := k.ep + 1 } }
def findS (s : St) (id : Int) : Option (Nat × Nat × Chk) :=
  (List.range 64).findSome? fun i => ((s.vs i).ks.findIdx? fun k => decide (k.id = id)).bind fun j => ((s.vs i).ks[j]?).map fun k => (i, j, k)
theorem findS_some {s : St} {id : Int} {i j : Nat} {k : Chk} (h : findS s id = some (i, j, k)) : FoundAt s id i j k := by
  unfold findS at h
  obtain ⟨n, hn, h⟩ := List.exists_of_findSome?_eq_some h
  rw [List.mem_range] at hn
  cases hf : (s.vs n).ks.findIdx? (fun k => decide (k.id = id)) with
  | none => simp [hf] at h
  | some m =>
    rw [hf] at h
    simp only [Option.bind_some, Option.map_eq_some_iff, Prod.mk.injEq] at h
    obtain ⟨k', hk, rfl, rfl, rfl⟩ := h
    rw [List.findIdx?_eq_some_iff_getElem] at hf
    obtain ⟨hlt, hp, _⟩ := hf
    obtain ⟨_, e⟩ := List.getElem?_eq_some_iff.1 hk
    refine ⟨hn, hk, ?_⟩
    rw [← e]
    simpa using hp
theorem findS_none {s : St} {id : Int} (h : findS s id = none) : NoChunk s id := by
  intro i hi k hk e
  unfold findS at h
  rw [List.findSome?_eq_none_iff] at h
  have := h i (List.mem_range.2 hi)
  cases hf : (s.vs i).ks.findIdx? (fun k => decide (k.id = id)) with
  | none =>
    rw [List.findIdx?_eq_none_iff] at hf
    have := hf k hk
    simp [e] at this
  | some m =>
    rw [hf] at this
    rw [List.findIdx?_eq_some_iff_getElem] at hf
    obtain ⟨hlt, hp, _⟩ := hf
    simp [List.getElem?_eq_getElem hlt] at this
/-- a command about a chunk k, that is there in just that epoch: an error, or what the chunk is then -/
def chunkF (c : Cmd) (k : Chk) : Chk ⊕ Int :=
  if c.k = 6 then
    if hasK c.c k = false then .inr 1 else if k.ms = [c.c] then .inr 9 else .inl { k with ms := withoutL k.ms c.c, js := withoutL k.js c.c }
  else if c.k = 7 then
    if hasK c.c k = true then .inr 8 else if 4 ≤ k.ms.length + k.js.length then .inr 6 else .inl { k with js := k.js ++ [c.c] }
  else
    if c.c ∈ k.js then .inl { k with ms := k.ms ++ [c.c], js := withoutL k.js c.c } else .inr 1
def chunkS (s : St) (c : Cmd) : St × Int :=
  if c.k = 7 ∧ isSrv s c.c = false then (s, 7) else
  match findS s c.a with
  | none => (s, 7)
  | some (i, j, k) => if k.ep ≠ c.b then (s, 10) else
    match chunkF c k with
    | .inr e => (s, e)
    | .inl k' => (renewS s i j k', 0)
def areB (b : Int) : Bool := decide (1 ≤ b ∧ b ≤ 512)
def doS (s : St) (c : Cmd) : St × Int :=
  if c.k = 1 then
    if decide (0 ≤ c.a ∧ c.a ≤ 15) && decide (1 ≤ c.b ∧ c.b ≤ 64) then ({ s with pk := fun i => if (i : Int) = c.a then c.b else s.pk i }, 0) else (s, 1)
  else if c.k = 2 then
    if !(decide (0 ≤ c.a ∧ c.a ≤ 63) && areB c.b && decide (1 ≤ c.c ∧ c.c ≤ 3) && rightP c.p) then (s, 1)
    else if (s.vs c.a.toNat).bl > 0 then (s, 8)
    else if ((serversL s.pk).length : Int) < c.c then (s, 7)
    else (fillS (setV s c.a.toNat ⟨c.b, c.p, 1, []⟩) c.a.toNat c.c.toNat, 0)
  else if c.k = 3 then
    if isVol s c.a then (setV s c.a.toNat vol0, 0) else (s, 7)
  else if c.k = 4 then
    if areB c.b = false then (s, 1) else if isVol s c.a = false then (s, 7)
    else
      let v := s.vs c.a.toNat
      let u : Vol := { v with bl := c.b, ks := v.ks.take (countF c.b).toNat }
      (fillS (setV s c.a.toNat u) c.a.toNat (match u.ks with | k :: _ => k.ms.length | [] => 0), 0)
  else if c.k = 5 then
    if rightP c.p = false then (s, 1) else if isVol s c.a = false then (s, 7)
    else
      let v := s.vs c.a.toNat
      (setV s c.a.toNat { v with p := c.p, ver := v.ver + 1 }, 0)
  else chunkS s c
def applyS (s : St) (c : Cmd) : St × Int :=
  if 1 ≤ c.k ∧ c.k ≤ 8 then
    if (doS s c).2 ≠ 0 then (s, (doS s c).2) else if admS (doS s c).1 then ((doS s c).1, 0) else (s, 14)
  else (s, 22)

/-! ### bounds -/
structure ChkFit (k : Chk) : Prop where
  id : 0 ≤ k.id ∧ k.id ≤ 35184372088832
  vo : 0 ≤ k.vo ∧ k.vo ≤ 63
  ep : 0 ≤ k.ep ∧ k.ep ≤ 35184372088832
  ml : k.ms.length ≤ 16
  jl : k.js.length ≤ 16
  ms : ∀ x ∈ k.ms, 0 ≤ x ∧ x ≤ 15
  js : ∀ x ∈ k.js, 0 ≤ x ∧ x ≤ 15
structure VolFit (v : Vol) : Prop where
  bl : 0 ≤ v.bl ∧ v.bl ≤ 512
  p : InP v.p
  ver : 0 ≤ v.ver ∧ v.ver ≤ 35184372088832
  kl : v.ks.length ≤ 64
  ks : ∀ k ∈ v.ks, ChkFit k
structure StFit (s : St) : Prop where
  pk : ∀ i, i < 16 → 0 ≤ s.pk i ∧ s.pk i ≤ 9223372036854775807
  vs : ∀ i, i < 64 → VolFit (s.vs i)
  md : 0 ≤ s.md ∧ s.md ≤ 35184372088832
end Go.Proofs.Ytcaaakoahaoooaa
