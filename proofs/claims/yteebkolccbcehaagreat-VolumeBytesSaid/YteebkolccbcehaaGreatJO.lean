/-
  Joined: RefVol, RefDo, RefApp. Conditions: each theorem's own.
-/
import Derived.Test.YteebkolccbcehaaGreatVolGood

section
set_option linter.all false
namespace Go.Proofs.YteebkolccbcehaaGreat
open Go.ChangeShapes Go.WideShapes Go.ChangeAt Go.RowKit
section
variable {α : Type} {f : α -> Int}
def yl (f : α -> Int) (l : List α) : Prop := l.Pairwise fun a b => f a < f b
theorem yl.inj {l : List α} (h : yl f l) {a b : α} (ha : a ∈ l) (hb : b ∈ l) (e : f a = f b) : a = b := by
 unfold yl at h
 rw [List.pairwise_iff_getElem] at h
 obtain ⟨i, hi, rfl⟩ := List.mem_iff_getElem.1 ha
 obtain ⟨j, hj, rfl⟩ := List.mem_iff_getElem.1 hb
 rcases Nat.lt_trichotomy i j with hij | rfl | hij
 ·have := h i j hi hj hij; omega
 ·rfl
 ·have := h j i hj hi hij; omega
theorem yl.same {l m : List α} (h : yl f l) (k : yl f m) (hm : ∀ x, x ∈ l ↔ x ∈ m) : l = m :=
 List.Perm.eq_of_pairwise (le := fun a b => f a < f b) (fun a b _ _ h1 h2 => absurd h2 (by omega)) h k
  ((List.perm_ext_iff_of_nodup (List.Pairwise.imp (fun {a b} h e => by subst e; omega) h) (List.Pairwise.imp (fun {a b} h e => by subst e; omega) k)).2 hm)
theorem yl.filter {l : List α} (h : yl f l) (q : α -> Bool) : yl f (l.filter q) := List.Pairwise.filter q h
theorem yl.snoc {l : List α} (h : yl f l) {a : α} (ha : ∀ x ∈ l, f x < f a) : yl f (l ++ [a]) :=
 List.pairwise_append.2 ⟨h, List.pairwise_singleton _ _, fun x hx y hy => by rw [List.mem_singleton] at hy; subst hy; exact ha x hx⟩
theorem yl.set {l : List α} (h : yl f l) {i : Nat} {a b : α} (hi : l[i]? = some a) (e : f b = f a) : yl f (l.set i b) /\ ∀ x, x ∈ l.set i b ↔ x = b \/ (x ∈ l /\ f x ≠ f b) := by
 obtain ⟨hl, hia⟩ := List.getElem?_eq_some_iff.1 hi
 have hget : ∀ (j : Nat) (y : α), (l.set i b)[j]? = some y -> ∃ z, l[j]? = some z /\ f z = f y := by
  intro j y hj
  rw [List.getElem?_set] at hj
  by_cases hij : i = j
  ·subst hij
   rw [if_pos rfl, if_pos hl] at hj
   injection hj with hj
   exact ⟨a, hi, by rw [<- hj, e]⟩
  ·rw [if_neg hij] at hj
   exact ⟨y, hj, rfl⟩
 refine ⟨?_, fun x => ?_⟩
 ·unfold yl at h ⊢
  rw [List.pairwise_iff_getElem] at h ⊢
  intro p q hp hq hpq
  obtain ⟨z1, h1, e1⟩ := hget p _ (List.getElem?_eq_getElem hp)
  obtain ⟨z2, h2, e2⟩ := hget q _ (List.getElem?_eq_getElem hq)
  obtain ⟨k1, rfl⟩ := List.getElem?_eq_some_iff.1 h1
  obtain ⟨k2, rfl⟩ := List.getElem?_eq_some_iff.1 h2
  have := h p q k1 k2 hpq
  omega
 ·constructor
  ·intro hx
   obtain ⟨j, hj⟩ := List.mem_iff_getElem?.1 hx
   rw [List.getElem?_set] at hj
   by_cases hij : i = j
   ·subst hij
    rw [if_pos rfl, if_pos hl] at hj
    injection hj with hj
    exact .inl hj.symm
   ·rw [if_neg hij] at hj
    refine .inr ⟨List.mem_of_getElem? hj, fun ek => hij ?_⟩
    obtain ⟨k1, hk⟩ := List.getElem?_eq_some_iff.1 hj
    unfold yl at h
    rw [List.pairwise_iff_getElem] at h
    rcases Nat.lt_trichotomy i j with h1 | h1 | h1
    ·have := h i j hl k1 h1; rw [hk, hia] at this; omega
    ·exact h1
    ·have := h j i k1 hl h1; rw [hk, hia] at this; omega
  ·rintro (rfl | ⟨hx, hne⟩)
   ·exact List.mem_iff_getElem?.2 ⟨i, by rw [List.getElem?_set, if_pos rfl, if_pos hl]⟩
   ·obtain ⟨j, hj⟩ := List.mem_iff_getElem?.1 hx
    refine List.mem_iff_getElem?.2 ⟨j, ?_⟩
    rw [List.getElem?_set, if_neg]
    ·exact hj
    ·rintro rfl
     rw [hi] at hj
     injection hj with hj
     exact hne (by rw [<- hj, e])
theorem yl.erase {l : List α} (h : yl f l) {i : Nat} {a : α} (hi : l[i]? = some a) : yl f (l.take i ++ l.drop (i + 1)) /\ ∀ x, x ∈ l.take i ++ l.drop (i + 1) ↔ (x ∈ l /\ f x ≠ f a) := by
 obtain ⟨hl, hia⟩ := List.getElem?_eq_some_iff.1 hi
 have hsp : l = l.take i ++ a :: l.drop (i + 1) := by
  conv => lhs; rw [<- List.take_append_drop i l, List.drop_eq_getElem_cons hl, hia]
 have h2 := h
 unfold yl at h2
 rw [hsp] at h2
 obtain ⟨p1, p2, p3⟩ := List.pairwise_append.1 h2
 obtain ⟨p4, p5⟩ := List.pairwise_cons.1 p2
 refine ⟨List.pairwise_append.2 ⟨p1, p5, fun x hx y hy => p3 x hx y (List.mem_cons_of_mem _ hy)⟩, fun x => ?_⟩
 constructor
 ·intro hx
  rcases List.mem_append.1 hx with hx | hx
  ·exact ⟨List.mem_of_mem_take hx, fun e => by have := p3 x hx a (by simp); omega⟩
  ·exact ⟨List.mem_of_mem_drop hx, fun e => by have := p4 x hx; omega⟩
 ·rintro ⟨hx, hne⟩
  rw [hsp] at hx
  rcases List.mem_append.1 hx with hx | hx
  ·exact List.mem_append_left _ hx
  ·rcases List.mem_cons.1 hx with rfl | hx
   ·exact absurd rfl hne
   ·exact List.mem_append_right _ hx
theorem yl.insert {l : List α} (h : yl f l) {k : Nat} {a : α} (h1 : ∀ x ∈ l.take k, f x < f a) (h2 : ∀ x ∈ l.drop k, f a < f x) : yl f (l.take k ++ [a] ++ l.drop k) /\ ∀ x, x ∈ l.take k ++ [a] ++ l.drop k ↔ x = a \/ x ∈ l := by
 refine ⟨List.pairwise_append.2 ⟨List.pairwise_append.2 ⟨h.sublist (List.take_sublist _ _), List.pairwise_singleton _ _, fun x hx y hy => by rw [List.mem_singleton] at hy; subst hy; exact h1 x hx⟩, h.sublist (List.drop_sublist _ _), fun x hx y hy => ?_⟩, fun x => ?_⟩
 ·have hy2 := h2 y hy
  rcases List.mem_append.1 hx with hx | hx
  ·have := h1 x hx; omega
  ·rw [List.mem_singleton] at hx; subst hx; exact hy2
 ·conv => rhs; rw [<- List.take_append_drop k l]
  simp only [List.mem_append, List.mem_singleton]
  constructor
  ·rintro ((h | h) | h)
   ·exact .inr (.inl h)
   ·exact .inl h
   ·exact .inr (.inr h)
  ·rintro (h | h | h)
   ·exact .inl (.inr h)
   ·exact .inl (.inl h)
   ·exact .inr h
end
structure RV where
 id : Int
 bl : Int
 p : Pol
 ver : Int
 ids : List Int
structure RS where
 pk : Nat -> Int
 vs : List RV
 cs : List Chk
 nx : Int
def rvOf (s : St) (i : Nat) : RV := ⟨(i : Int), (s.vs i).bl, (s.vs i).p, (s.vs i).ver, idsK (s.vs i).ks⟩
structure Rel (s : St) (r : RS) : Prop where
 pk : ∀ i, i < 16 -> r.pk i = s.pk i
 vr : yl RV.id r.vs
 vm : ∀ v, v ∈ r.vs ↔ ∃ i : Nat, i < 64 /\ (s.vs i).bl ≠ 0 /\ v = rvOf s i
 cr : yl Chk.id r.cs
 cm : ∀ k, k ∈ r.cs ↔ ∃ i : Nat, i < 64 /\ k ∈ (s.vs i).ks
 nx : r.nx = s.md + 1
theorem Rel.new : Rel st0 ⟨fun _ => 0, [], [], 1⟩ :=
 ⟨fun _ _ => rfl, List.Pairwise.nil, fun v => ⟨fun h => (by cases h), fun ⟨i, _, h, _⟩ => absurd rfl h⟩, List.Pairwise.nil, fun k => ⟨fun h => (by cases h), fun ⟨i, _, h⟩ => (by cases h)⟩, rfl⟩
theorem volsL_rise (s : St) (q : Nat -> Bool) : yl RV.id (((List.range 64).filter q).map (rvOf s)) := by
 unfold yl
 rw [List.pairwise_map]
 refine List.Pairwise.imp ?_ (List.Pairwise.filter q List.pairwise_lt_range)
 intro a b h
 show (a : Int) < (b : Int)
 omega
theorem Rel.vols {s : St} {r : RS} (h : Rel s r) : r.vs = ((List.range 64).filter fun i => decide ((s.vs i).bl ≠ 0)).map (rvOf s) := by
 refine h.vr.same (volsL_rise s _) fun v => ?_
 rw [h.vm]
 simp only [List.mem_map, List.mem_filter, List.mem_range, decide_eq_true_eq]
 constructor
 ·rintro ⟨i, h1, h2, rfl⟩
  exact ⟨i, ⟨h1, h2⟩, rfl⟩
 ·rintro ⟨i, ⟨h1, h2⟩, rfl⟩
  exact ⟨i, h1, h2, rfl⟩
def Zs (r : RS) (sv : Int) : List Pol := (r.vs.filter fun v => r.cs.any fun k => decide (k.vo = v.id) && hasK sv k).map RV.p
theorem Rel.pols {n : Int} {s : St} {r : RS} (h : Rel s r) (hg : yy n s) (sv : Int) : Zs r sv = Z6 s sv := by
 unfold Zs Z6
 rw [h.vols, List.filter_map, List.map_map, List.filter_filter]
 have : (List.range 64).filter (fun a => (((fun v : RV => r.cs.any fun k => decide (k.vo = v.id) && hasK sv k) ∘ rvOf s) a && decide ((s.vs a).bl ≠ 0))) = (List.range 64).filter (fun i => (s.vs i).ks.any (hasK sv)) := by
  apply List.filter_congr
  intro i hi
  have hi64 := List.mem_range.1 hi
  rw [Bool.eq_iff_iff]
  simp only [Function.comp, Bool.and_eq_true, List.any_eq_true, decide_eq_true_eq]
  constructor
  ·rintro ⟨⟨k, hk, hv, hh⟩, _⟩
   obtain ⟨j, hj, hkj⟩ := (h.cm k).1 hk
   have hvo := ((hg.vs j hj).ks k hkj).vo
   have : j = i := by have : k.vo = (i : Int) := hv; omega
   subst this
   exact ⟨k, hkj, hh⟩
  ·rintro ⟨k, hk, hh⟩
   refine ⟨⟨k, (h.cm k).2 ⟨i, hi64, hk⟩, ((hg.vs i hi64).ks k hk).vo, hh⟩, fun hb => ?_⟩
   rw [(hg.vs i hi64).zero hb] at hk
   cases hk
 rw [this]
 rfl
def admR (r : RS) : Bool := (List.range 16).all fun i => !decide (0 < r.pk i) || yY (r.pk i) (Zs r (i : Int))
theorem Rel.adm {n : Int} {s : St} {r : RS} (h : Rel s r) (hg : yy n s) : admR r = admS s := by
 unfold admR admS
 rw [Bool.eq_iff_iff, List.all_eq_true, List.all_eq_true]
 constructor
 ·intro hh x hx
  have hx2 := Xw hx
  have := hh x (List.mem_range.2 hx2.1)
  rw [h.pk x hx2.1, h.pols hg] at this
  simpa [hx2.2] using this
 ·intro hh x hx
  have hx16 := List.mem_range.1 hx
  rw [h.pk x hx16, h.pols hg]
  by_cases hp : 0 < s.pk x
  ·have := hh x (by unfold zm; rw [List.mem_filter]; exact ⟨hx, by simpa using hp⟩)
   simp [hp, this]
  ·simp [hp]
theorem Rel.volAt {s : St} {r : RS} (h : Rel s r) {i : Nat} (hi : i < 64) (hb : (s.vs i).bl ≠ 0) : ∃ q : Nat, r.vs[q]? = some (rvOf s i) /\ ∀ (j : Nat) (v : RV), r.vs[j]? = some v -> v.id = (i : Int) -> j = q := by
 have hm := (h.vm (rvOf s i)).2 ⟨i, hi, hb, rfl⟩
 obtain ⟨q, hq⟩ := List.mem_iff_getElem?.1 hm
 refine ⟨q, hq, fun j v hj hv => ?_⟩
 obtain ⟨k1, e1⟩ := List.getElem?_eq_some_iff.1 hq
 obtain ⟨k2, e2⟩ := List.getElem?_eq_some_iff.1 hj
 have hr := h.vr
 unfold yl at hr
 rw [List.pairwise_iff_getElem] at hr
 rcases Nat.lt_trichotomy j q with h1 | h1 | h1
 ·have := hr j q k2 k1 h1
  rw [e1, e2, hv] at this
  exact absurd this (by show ¬ (i : Int) < (i : Int); omega)
 ·exact h1
 ·have := hr q j k1 k2 h1
  rw [e1, e2, hv] at this
  exact absurd this (by show ¬ (i : Int) < (i : Int); omega)
theorem Rel.setV {n : Int} {s : St} {r : RS} (h : Rel s r) (hg : yy n s) {i q : Nat} {v : Vol} {cs : List Chk} (hi : i < 64) (hq : r.vs[q]? = some (rvOf s i)) (hv : v.bl ≠ 0) (hc1 : yl Chk.id cs) (hc2 : ∀ k, k ∈ cs ↔ (k ∈ r.cs /\ k.vo ≠ (i : Int)) \/ k ∈ v.ks) :
  Rel (setV s i v) ⟨r.pk, r.vs.set q ⟨(i : Int), v.bl, v.p, v.ver, idsK v.ks⟩, cs, r.nx⟩ := by
 obtain ⟨s1, s2⟩ := h.vr.set (b := ⟨(i : Int), v.bl, v.p, v.ver, idsK v.ks⟩) hq rfl
 refine ⟨h.pk, s1, fun x => ?_, hc1, fun k => ?_, h.nx⟩
 ·rw [s2, h.vm]
  constructor
  ·rintro (rfl | ⟨⟨j, h1, h2, rfl⟩, hne⟩)
   ·exact ⟨i, hi, by rw [zE]; exact hv, by unfold rvOf; rw [zE]⟩
   ·have hji : j ≠ i := fun e => hne (by subst e; rfl)
    exact ⟨j, h1, by rw [zA hji]; exact h2, by unfold rvOf; rw [zA hji]⟩
  ·rintro ⟨j, h1, h2, rfl⟩
   by_cases e : j = i
   ·subst e
    left
    unfold rvOf
    rw [zE]
   ·right
    rw [zA e] at h2
    refine ⟨⟨j, h1, h2, by unfold rvOf; rw [zA e]⟩, fun e2 => e ?_⟩
    have : (j : Int) = (i : Int) := e2
    omega
 ·rw [hc2]
  constructor
  ·rintro (⟨hk, hvo⟩ | hk)
   ·obtain ⟨j, hj, hkj⟩ := (h.cm k).1 hk
    have hji : j ≠ i := fun e => hvo (by rw [<- e]; exact ((hg.vs j hj).ks k hkj).vo)
    exact ⟨j, hj, by rw [zA hji]; exact hkj⟩
   ·exact ⟨i, hi, by rw [zE]; exact hk⟩
  ·rintro ⟨j, hj, hk⟩
   by_cases e : j = i
   ·subst e
    rw [zE] at hk
    exact .inr hk
   ·rw [zA e] at hk
    refine .inl ⟨(h.cm k).2 ⟨j, hj, hk⟩, fun hvo => e ?_⟩
    have := ((hg.vs j hj).ks k hk).vo
    omega
end Go.Proofs.YteebkolccbcehaaGreat
end

section
set_option linter.all false
namespace Go.Proofs.YteebkolccbcehaaGreat
open Go.ChangeShapes Go.WideShapes Go.ChangeAt Go.RowKit
def yS (l : List RV) (id : Int) : Option Nat := l.findIdx? fun v => decide (v.id = id)
def chIx (l : List Chk) (id : Int) : Option Nat := l.findIdx? fun k => decide (k.id = id)
theorem Yf {α : Type} {f : α -> Int} {l : List α} (h : yl f l) {x : α} (hx : x ∈ l) {v : Int} (hv : f x = v) : ∃ q : Nat, l.findIdx? (fun y => decide (f y = v)) = some q /\ l[q]? = some x := by
 cases hf : l.findIdx? (fun y => decide (f y = v)) with
 | none =>
  rw [List.findIdx?_eq_none_iff] at hf
  have := hf x hx
  simp [hv] at this
 | some q =>
  have hq := hf
  rw [List.findIdx?_eq_some_iff_getElem] at hf
  obtain ⟨hl, hp, _⟩ := hf
  have he : f l[q] = v := by simpa using hp
  have := h.inj (List.getElem_mem hl) hx (he.trans hv.symm)
  exact ⟨q, rfl, by rw [List.getElem?_eq_getElem hl, this]⟩
theorem Xz {α : Type} {f : α -> Int} {l : List α} {v : Int} (h : ∀ x ∈ l, f x ≠ v) : l.findIdx? (fun y => decide (f y = v)) = none := by
 rw [List.findIdx?_eq_none_iff]
 intro x hx
 simpa using h x hx
theorem Rel.volYes {s : St} {r : RS} (h : Rel s r) {a : Int} (hv : yB s a = true) : ∃ q i : Nat, a = (i : Int) /\ i < 64 /\ (s.vs i).bl ≠ 0 /\ yS r.vs a = some q /\ r.vs[q]? = some (rvOf s i) := by
 obtain ⟨i, rfl, hi, hb⟩ := Zb hv
 obtain ⟨q, h1, h2⟩ := Yf h.vr ((h.vm (rvOf s i)).2 ⟨i, hi, hb, rfl⟩) (v := (i : Int)) rfl
 exact ⟨q, i, rfl, hi, hb, h1, h2⟩
theorem Rel.volNo {s : St} {r : RS} (h : Rel s r) {a : Int} (hv : yB s a = false) : yS r.vs a = none := by
 refine Xz fun x hx e => ?_
 obtain ⟨i, hi, hb, rfl⟩ := (h.vm x).1 hx
 have e2 : (i : Int) = a := e
 subst e2
 have : yB s (i : Int) = true := by
  simp only [yB, Bool.and_eq_true, decide_eq_true_eq, Int.toNat_natCast]
  exact ⟨by omega, hb⟩
 rw [this] at hv
 cases hv
theorem Rel.chYes {s : St} {r : RS} (h : Rel s r) {id : Int} {i j : Nat} {k : Chk} (hf : Z3 s id i j k) : ∃ q : Nat, chIx r.cs id = some q /\ r.cs[q]? = some k :=
 Yf h.cr ((h.cm k).2 ⟨i, hf.1, List.mem_of_getElem? hf.2.1⟩) hf.2.2
theorem Rel.chNo {s : St} {r : RS} (h : Rel s r) {id : Int} (hf : NoChunk s id) : chIx r.cs id = none := by
 refine Xz fun x hx e => ?_
 obtain ⟨i, hi, hk⟩ := (h.cm x).1 hx
 exact hf i hi x hk e
theorem YT {α : Type} {l : List α} {q : Nat} {x : α} (h : l[q]? = some x) : l.set q x = l := by
 obtain ⟨hl, rfl⟩ := List.getElem?_eq_some_iff.1 h
 exact List.set_getElem_self hl
def ZJ (r : RS) (c : Cmd) : RS × Int :=
 match chIx r.cs c.a with
 | none => (r, 7)
 | some q =>
  if c.k = 7 /\ (c.c < 0 \/ 15 < c.c \/ r.pk c.c.toNat = 0) then (r, 7) else
  match r.cs[q]? with
  | none => (r, 7)
  | some k => if k.ep ≠ c.b then (r, 10) else
   match xF c k with
   | .inr e => (r, e)
   | .inl k' => ({ r with cs := r.cs.set q { k' with ep := k'.ep + 1 } }, 0)
theorem ids_set {l : List Chk} {j : Nat} {k k' : Chk} (h : l[j]? = some k) (e : k'.id = k.id) : idsK (l.set j k') = idsK l := by
 unfold idsK
 rw [List.map_set, e]
 refine YT ?_
 rw [List.getElem?_map, h]
 rfl
theorem chunkF_id {k k' : Chk} {c : Cmd} (hf : xF c k = .inl k') : k'.id = k.id /\ k'.ep = k.ep /\ k'.vo = k.vo := by
 unfold xF at hf
 split at hf
 ·split at hf
  ·cases hf
  split at hf
  ·cases hf
  injection hf with hf
  subst hf
  exact ⟨rfl, rfl, rfl⟩
 split at hf
 ·split at hf
  ·cases hf
  split at hf
  ·cases hf
  injection hf with hf
  subst hf
  exact ⟨rfl, rfl, rfl⟩
 split at hf
 ·injection hf with hf
  subst hf
  exact ⟨rfl, rfl, rfl⟩
 ·cases hf
theorem Rel.renew {n : Int} {s : St} {r : RS} (h : Rel s r) (hg : yy n s) {id : Int} {i j q : Nat} {k kk : Chk} (hf : Z3 s id i j k) (hq : r.cs[q]? = some k) (hid : kk.id = k.id) (hvo : kk.vo = k.vo) :
  Rel (Go.Proofs.YteebkolccbcehaaGreat.setV s i { s.vs i with ks := (s.vs i).ks.set j kk }) { r with cs := r.cs.set q kk } := by
 obtain ⟨hi, hj, hkid⟩ := hf
 have hmem := List.mem_of_getElem? hj
 have hb : (s.vs i).bl ≠ 0 := fun e => by
  rw [(hg.vs i hi).zero e] at hmem
  cases hmem
 obtain ⟨p, hp, _⟩ := h.volAt hi hb
 obtain ⟨c1, c2⟩ := h.cr.set (b := kk) hq hid
 obtain ⟨d1, d2⟩ := yl.set (f := Chk.id) (hg.ord.rise i hi) (b := kk) hj hid
 have hkvo := ((hg.vs i hi).ks k hmem).vo
 have key := h.setV hg (v := { s.vs i with ks := (s.vs i).ks.set j kk }) (cs := r.cs.set q kk) hi hp hb c1 (fun x => by
  rw [c2]
  show _ ↔ _ \/ x ∈ (s.vs i).ks.set j kk
  rw [d2]
  constructor
  ·rintro (rfl | ⟨hx, hne⟩)
   ·exact .inr (.inl rfl)
   ·by_cases hv : x.vo = (i : Int)
    ·obtain ⟨a, ha, hxa⟩ := (h.cm x).1 hx
     have := ((hg.vs a ha).ks x hxa).vo
     have : a = i := by omega
     subst this
     exact .inr (.inr ⟨hxa, hne⟩)
    ·exact .inl ⟨hx, hv⟩
  ·rintro (⟨hx, hv⟩ | rfl | ⟨hx, hne⟩)
   ·refine .inr ⟨hx, fun e => hv ?_⟩
    obtain ⟨a, ha, hxa⟩ := (h.cm x).1 hx
    have := hg.ord.one a i ha hi x hxa k hmem (e.trans hid)
    subst this
    exact ((hg.vs a ha).ks x hxa).vo
   ·exact .inl rfl
   ·exact .inr ⟨(h.cm x).2 ⟨i, hi, hx⟩, hne⟩)
 have e : r.vs.set p ⟨(i : Int), (s.vs i).bl, (s.vs i).p, (s.vs i).ver, idsK ((s.vs i).ks.set j kk)⟩ = r.vs := by
  rw [ids_set hj hid]
  exact YT hp
 have key2 : Rel (Go.Proofs.YteebkolccbcehaaGreat.setV s i { s.vs i with ks := (s.vs i).ks.set j kk }) ⟨r.pk, r.vs.set p ⟨(i : Int), (s.vs i).bl, (s.vs i).p, (s.vs i).ver, idsK ((s.vs i).ks.set j kk)⟩, r.cs.set q kk, r.nx⟩ := key
 rw [e] at key2
 exact key2
theorem Rel.chunk {n : Int} {s : St} {r : RS} (h : Rel s r) (hg : yy n s) (c : Cmd) : (ZJ r c).2 = (xK s c).2 /\ Rel (xK s c).1 (ZJ r c).1 := by
 have hsrv : (c.c < 0 \/ 15 < c.c \/ r.pk c.c.toNat = 0) ↔ xr s c.c = false := by
  rw [<- Bool.not_eq_true]
  unfold xr
  simp only [Bool.and_eq_true, decide_eq_true_eq]
  constructor
  ·rintro (h1 | h1 | h1) ⟨h2, h3⟩
   ·omega
   ·omega
   ·rw [h.pk _ (by omega)] at h1; omega
  ·intro h1
   by_cases h2 : c.c < 0
   ·exact .inl h2
   ·by_cases h3 : 15 < c.c
    ·exact .inr (.inl h3)
    ·refine .inr (.inr ?_)
     rw [h.pk _ (by omega)]
     have h4 := (hg.pk c.c.toNat (by omega)).1
     rcases Int.lt_or_le 0 (s.pk c.c.toNat) with h5 | h5
     ·exact absurd ⟨by omega, h5⟩ h1
     ·omega
 unfold ZJ xK
 cases hf : xL s c.a with
 | none =>
  rw [h.chNo (X2 hf)]
  by_cases h7 : c.k = 7 /\ xr s c.c = false
  ·rw [if_pos h7]; exact ⟨rfl, h⟩
  ·rw [if_neg h7]; exact ⟨rfl, h⟩
 | some x =>
  obtain ⟨i, j, k⟩ := x
  have hfa := xp hf
  obtain ⟨q, hq1, hq2⟩ := h.chYes hfa
  rw [hq1]
  simp only
  by_cases h7 : c.k = 7 /\ xr s c.c = false
  ·rw [if_pos h7, if_pos ⟨h7.1, hsrv.2 h7.2⟩]; exact ⟨rfl, h⟩
  ·rw [if_neg h7, if_neg (fun e => h7 ⟨e.1, hsrv.1 e.2⟩), hq2]
   simp only
   by_cases he : k.ep ≠ c.b
   ·rw [if_pos he, if_pos he]; exact ⟨rfl, h⟩
   ·rw [if_neg he, if_neg he]
    cases hc : xF c k with
    | inr e => exact ⟨rfl, h⟩
    | inl k' =>
     obtain ⟨e1, e2, e3⟩ := chunkF_id hc
     exact ⟨rfl, h.renew hg hfa hq2 (kk := { k' with ep := k'.ep + 1 }) e1 e3⟩
theorem count_has {k : Chk} (h : (k.ms ++ k.js).Nodup) (x : Int) : (k.ms ++ k.js).count x = if hasK x k then 1 else 0 := by
 have hh : hasK x k = decide (x ∈ k.ms ++ k.js) := by
  unfold hasK
  rw [Bool.eq_iff_iff]
  simp
 rw [hh]
 by_cases hx : x ∈ k.ms ++ k.js
 ·rw [h.count, if_pos hx, decide_eq_true hx]; rfl
 ·rw [h.count, if_neg hx, decide_eq_false hx]; rfl
theorem count_flat {l : List Chk} (h : ∀ k ∈ l, (k.ms ++ k.js).Nodup) (x : Int) : (z8 l).count x = (l.filter (hasK x)).length := by
 induction l with
 | nil => rfl
 | cons k l ih =>
  have e : z8 (k :: l) = (k.ms ++ k.js) ++ z8 l := by simp [z8]
  rw [e, List.count_append, ih (fun k hk => h k (List.mem_cons_of_mem _ hk)), count_has (h k (by simp)), List.filter_cons]
  cases hasK x k <;> simp <;> omega
theorem XB {ids : List Nat} {vo : Int} {copies : Nat} {md : Int} {hv hv' : List Int} (h : ∀ x, hv.count x = hv'.count x) : ∀ q : Nat, yo ids vo copies md hv q = yo ids vo copies md hv' q
 | 0 => rfl
 | q + 1 => by
  rw [yo, yo, XB h q]
  congr 5
  funext i
  rw [List.count_append, List.count_append, h]
def Zu (r : RS) (q : Nat) (v : RV) (copies m : Nat) : RS :=
 let F := yo (zm r.pk) v.id copies (r.nx - 1) (z8 r.cs) m
 { r with vs := r.vs.set q { v with ids := v.ids ++ idsK F }, cs := r.cs ++ F, nx := r.nx + m }
structure PreF (s : St) : Prop where
 vo : ∀ i, i < 64 -> ∀ k ∈ (s.vs i).ks, k.vo = (i : Int)
 id : ∀ i, i < 64 -> ∀ k ∈ (s.vs i).ks, k.id <= s.md
 nd : ∀ i, i < 64 -> ∀ k ∈ (s.vs i).ks, (k.ms ++ k.js).Nodup
 rise : ∀ i, i < 64 -> Zl (s.vs i).ks
 one : ∀ a b, a < 64 -> b < 64 -> ∀ k ∈ (s.vs a).ks, ∀ k' ∈ (s.vs b).ks, k.id = k'.id -> a = b
theorem PreF.all {s : St} (h : PreF s) : (zX s 64).Nodup := by
 unfold zX
 rw [List.Nodup, List.pairwise_flatMap]
 refine ⟨fun i hi => ?_, ?_⟩
 ·exact List.Pairwise.imp (R := fun a b : Chk => a.id < b.id) (fun {a b} hab e => by subst e; omega) (h.rise i (List.mem_range.1 hi))
 ·refine List.Pairwise.imp_of_mem ?_ (List.pairwise_lt_range (n := 64))
  intro a b ha hb hab x hx y hy e
  subst e
  have := h.one a b (List.mem_range.1 ha) (List.mem_range.1 hb) x hx x hy rfl
  omega
theorem Rel.count {s : St} {r : RS} (h : Rel s r) (hp : PreF s) (x : Int) : (z8 (zX s 64)).count x = (z8 r.cs).count x := by
 have hperm : (zX s 64).Perm r.cs := (List.perm_ext_iff_of_nodup hp.all (List.Pairwise.imp (R := fun a b : Chk => a.id < b.id) (fun {a b} hab e => by subst e; omega) h.cr)).2 fun k => by
  rw [h.cm]
  unfold zX
  rw [List.mem_flatMap]
  constructor
  ·rintro ⟨i, hi, hk⟩; exact ⟨i, List.mem_range.1 hi, hk⟩
  ·rintro ⟨i, hi, hk⟩; exact ⟨i, List.mem_range.2 hi, hk⟩
 have : (z8 (zX s 64)).Perm (z8 r.cs) := by
  unfold z8
  exact hperm.flatMap_right _
 exact this.count_eq x
theorem YA {p q : Nat -> Int} (h : ∀ i, i < 16 -> p i = q i) : zm p = zm q := by
 unfold zm
 apply List.filter_congr
 intro x hx
 rw [h x (List.mem_range.1 hx)]
theorem QS (ids : List Nat) (vo : Int) (copies : Nat) (md : Int) (hv : List Int) : ∀ q : Nat, (∀ k ∈ yo ids vo copies md hv q, k.vo = vo /\ md < k.id /\ k.id <= md + q) /\ yl Chk.id (yo ids vo copies md hv q)
 | 0 => ⟨fun k hk => (by cases hk), List.Pairwise.nil⟩
 | q + 1 => by
  obtain ⟨a, b⟩ := QS ids vo copies md hv q
  rw [yo]
  refine ⟨fun k hk => ?_, b.snoc fun x hx => ?_⟩
  ·rcases List.mem_append.1 hk with hk | hk
   ·have := a k hk; exact ⟨this.1, this.2.1, by omega⟩
   ·rw [List.mem_singleton] at hk
    subst hk
    exact ⟨rfl, by show md < md + q + 1; omega, by show md + q + 1 <= md + ((q + 1 : Nat) : Int); omega⟩
  ·have := (a x hx).2.2
   show x.id < md + q + 1
   omega
theorem Rel.fill {s : St} {r : RS} (h : Rel s r) (hp : PreF s) {i q : Nat} (hi : i < 64) (hb : (s.vs i).bl ≠ 0) (hq : r.vs[q]? = some (rvOf s i)) (copies m : Nat) : Rel (xe s i copies m) (Zu r q (rvOf s i) copies m) := by
 obtain ⟨F, hF⟩ : ∃ F, yo (zm s.pk) (i : Int) copies s.md (z8 (zX s 64)) m = F := ⟨_, rfl⟩
 have hF2 : yo (zm r.pk) (rvOf s i).id copies (r.nx - 1) (z8 r.cs) m = F := by
  rw [<- hF, YA h.pk, h.nx, show s.md + 1 - 1 = s.md by omega]
  exact (XB (h.count hp) m).symm
 obtain ⟨f1, f2⟩ := QS (zm s.pk) (i : Int) copies s.md (z8 (zX s 64)) m
 rw [hF] at f1 f2
 have e1 : xe s i copies m = { Go.Proofs.YteebkolccbcehaaGreat.setV s i { s.vs i with ks := (s.vs i).ks ++ F } with md := s.md + m } := by unfold xe; rw [hF]
 have e2 : Zu r q (rvOf s i) copies m = { r with vs := r.vs.set q { rvOf s i with ids := (rvOf s i).ids ++ idsK F }, cs := r.cs ++ F, nx := r.nx + m } := by unfold Zu; rw [hF2]
 rw [e1, e2]
 obtain ⟨s1, s2⟩ := h.vr.set (b := { rvOf s i with ids := (rvOf s i).ids ++ idsK F }) hq rfl
 have eids : (rvOf s i).ids ++ idsK F = idsK ((s.vs i).ks ++ F) := by simp [rvOf, idsK]
 refine ⟨h.pk, s1, fun x => ?_, ?_, fun k => ?_, ?_⟩
 ·rw [s2, h.vm]
  constructor
  ·rintro (rfl | ⟨⟨j, h1, h2, rfl⟩, hne⟩)
   ·refine ⟨i, hi, ?_, ?_⟩
    ·show ((Go.Proofs.YteebkolccbcehaaGreat.setV s i _).vs i).bl ≠ 0
     rw [zE]; exact hb
    ·show _ = rvOf (Go.Proofs.YteebkolccbcehaaGreat.setV s i _) i
     unfold rvOf
     rw [zE]
     simp [idsK]
   ·have hji : j ≠ i := fun e => hne (by subst e; rfl)
    refine ⟨j, h1, ?_, ?_⟩
    ·show ((Go.Proofs.YteebkolccbcehaaGreat.setV s i _).vs j).bl ≠ 0
     rw [zA hji]; exact h2
    ·show _ = rvOf (Go.Proofs.YteebkolccbcehaaGreat.setV s i _) j
     unfold rvOf
     rw [zA hji]
  ·rintro ⟨j, h1, h2, rfl⟩
   have h2' : ((Go.Proofs.YteebkolccbcehaaGreat.setV s i { s.vs i with ks := (s.vs i).ks ++ F }).vs j).bl ≠ 0 := h2
   by_cases e : j = i
   ·subst e
    left
    show rvOf (Go.Proofs.YteebkolccbcehaaGreat.setV s j _) j = _
    unfold rvOf
    rw [zE]
    simp [idsK]
   ·right
    rw [zA e] at h2'
    refine ⟨⟨j, h1, h2', ?_⟩, fun e2 => e ?_⟩
    ·show rvOf (Go.Proofs.YteebkolccbcehaaGreat.setV s i _) j = rvOf s j
     unfold rvOf
     rw [zA e]
    ·have : (j : Int) = (i : Int) := e2
     omega
 ·refine List.pairwise_append.2 ⟨h.cr, f2, fun x hx y hy => ?_⟩
  obtain ⟨a, ha, hxa⟩ := (h.cm x).1 hx
  have h1 := hp.id a ha x hxa
  have h2 := (f1 y hy).2.1
  omega
 ·show k ∈ r.cs ++ F ↔ ∃ j, j < 64 /\ k ∈ ((Go.Proofs.YteebkolccbcehaaGreat.setV s i { s.vs i with ks := (s.vs i).ks ++ F }).vs j).ks
  rw [List.mem_append, h.cm]
  constructor
  ·rintro (⟨j, hj, hk⟩ | hk)
   ·by_cases e : j = i
    ·subst e
     exact ⟨j, hj, by rw [zE]; exact List.mem_append_left _ hk⟩
    ·exact ⟨j, hj, by rw [zA e]; exact hk⟩
   ·exact ⟨i, hi, by rw [zE]; exact List.mem_append_right _ hk⟩
  ·rintro ⟨j, hj, hk⟩
   by_cases e : j = i
   ·subst e
    rw [zE] at hk
    rcases List.mem_append.1 hk with hk | hk
    ·exact .inl ⟨j, hj, hk⟩
    ·exact .inr hk
   ·rw [zA e] at hk
    exact .inl ⟨j, hj, hk⟩
 ·show r.nx + (m : Int) = s.md + (m : Int) + 1
  rw [h.nx]; omega
end Go.Proofs.YteebkolccbcehaaGreat
end

section
set_option linter.all false
namespace Go.Proofs.YteebkolccbcehaaGreat
open Go.ChangeShapes Go.WideShapes Go.ChangeAt Go.RowKit
def xv (l : List RV) (a : Int) : Nat := (l.takeWhile fun v => decide (v.id < a)).length
def cutR (r : RS) (q : Nat) (v : RV) (keep : Nat) (b : Int) : RS :=
 { r with cs := r.cs.filter (fun k => !decide (k.id ∈ v.ids.drop keep)), vs := r.vs.set q { v with bl := b, ids := v.ids.take keep } }
def Y6 (r : RS) (v : RV) : Nat :=
 match v.ids with
 | [] => 0
 | id :: _ => match chIx r.cs id with
  | none => 0
  | some j => match r.cs[j]? with
   | none => 0
   | some k => k.ms.length
def doR (r : RS) (c : Cmd) : RS × Int :=
 if c.k = 1 then
  if c.a < 0 \/ 15 < c.a \/ c.b < 1 \/ 64 < c.b then (r, 1) else ({ r with pk := fun i => if (i : Int) = c.a then c.b else r.pk i }, 0)
 else if c.k = 2 then
  if c.a < 0 \/ 63 < c.a \/ c.b < 1 \/ 512 < c.b \/ c.c < 1 \/ 3 < c.c \/ yc c.p = false then (r, 1)
  else match yS r.vs c.a with
   | some _ => (r, 8)
   | none => if ((zm r.pk).length : Int) < c.c then (r, 7) else
    (Zu { r with vs := r.vs.take (xv r.vs c.a) ++ [⟨c.a, c.b, c.p, 1, []⟩] ++ r.vs.drop (xv r.vs c.a) } (xv r.vs c.a) ⟨c.a, c.b, c.p, 1, []⟩ c.c.toNat (zx c.b).toNat, 0)
 else if c.k = 3 then
  match yS r.vs c.a with
  | none => (r, 7)
  | some q => match r.vs[q]? with
   | none => (r, 7)
   | some v => ({ r with cs := r.cs.filter (fun k => !decide (k.id ∈ v.ids)), vs := r.vs.take q ++ r.vs.drop (q + 1) }, 0)
 else if c.k = 4 then
  if c.b < 1 \/ 512 < c.b then (r, 1) else
  match yS r.vs c.a with
  | none => (r, 7)
  | some q => match r.vs[q]? with
   | none => (r, 7)
   | some v => (Zu (cutR r q v (min (zx c.b).toNat v.ids.length) c.b) q { v with bl := c.b, ids := v.ids.take (min (zx c.b).toNat v.ids.length) } (Y6 r v) ((zx c.b).toNat - min (zx c.b).toNat v.ids.length), 0)
 else if c.k = 5 then
  if yc c.p = false then (r, 1) else
  match yS r.vs c.a with
  | none => (r, 7)
  | some q => match r.vs[q]? with
   | none => (r, 7)
   | some v => ({ r with vs := r.vs.set q { v with p := c.p, ver := v.ver + 1 } }, 0)
 else ZJ r c
def ZY (r : RS) (c : Cmd) : RS × Int :=
 if 1 <= c.k /\ c.k <= 8 then
  if (doR r c).2 ≠ 0 then (r, (doR r c).2) else if admR (doR r c).1 then ((doR r c).1, 0) else (r, 14)
 else (r, 22)
theorem QI {n : Int} {s : St} (hg : yy n s) {i : Nat} {v : Vol} (hi : i < 64) (hk : ∀ k ∈ v.ks, k ∈ (s.vs i).ks) (hr : Zl v.ks) : PreF (setV s i v) := by
 have hsub : ∀ j, j < 64 -> ∀ k ∈ ((setV s i v).vs j).ks, k ∈ (s.vs j).ks := fun j hj k hkj => by
  by_cases e : j = i
  ·subst e; rw [zE] at hkj; exact hk k hkj
  ·rwa [zA e] at hkj
 refine ⟨fun j hj k hkj => ((hg.vs j hj).ks k (hsub j hj k hkj)).vo, fun j hj k hkj => ((hg.vs j hj).ks k (hsub j hj k hkj)).id.2, fun j hj k hkj => ((hg.vs j hj).ks k (hsub j hj k hkj)).nd, fun j hj => ?_,
  fun a b ha hb k hka k' hkb e => hg.ord.one a b ha hb k (hsub a ha k hka) k' (hsub b hb k' hkb) e⟩
 by_cases e : j = i
 ·subst e; rw [zE]; exact hr
 ·rw [zA e]; exact hg.ord.rise j hj
theorem insAt_le (l : List RV) (a : Int) : xv l a <= l.length := by
 unfold xv
 exact (List.takeWhile_sublist _).length_le
theorem insAt_take {l : List RV} {a : Int} : ∀ x ∈ l.take (xv l a), x.id < a := by
 intro x hx
 unfold xv at hx
 rw [<- List.prefix_iff_eq_take.1 (List.takeWhile_prefix _)] at hx
 have := List.all_eq_true.1 (List.all_takeWhile (p := fun v : RV => decide (v.id < a)) (l := l)) x hx
 simpa using this
theorem insAt_drop {l : List RV} (h : yl RV.id l) {a : Int} (hne : ∀ x ∈ l, x.id ≠ a) : ∀ x ∈ l.drop (xv l a), a < x.id := by
 intro x hx
 induction l with
 | nil => cases hx
 | cons y l ih =>
  obtain ⟨h1, h2⟩ := List.pairwise_cons.1 h
  unfold xv at hx
  by_cases hy : y.id < a
  ·rw [List.takeWhile_cons_of_pos (by simpa using hy), List.length_cons, List.drop_succ_cons] at hx
   exact ih h2 (fun z hz => hne z (List.mem_cons_of_mem _ hz)) hx
  ·rw [List.takeWhile_cons_of_neg (by simpa using hy), List.length_nil, List.drop_zero] at hx
   have hya := hne y (by simp)
   rcases List.mem_cons.1 hx with rfl | hx
   ·omega
   ·have := h1 x hx; omega
theorem take_min {α : Type} (l : List α) (m : Nat) : l.take (min m l.length) = l.take m := by
 rw [<- List.take_eq_take_min]
theorem rel_copies {u : St} {i x cp : Nat} {r : RS} (h : x = cp) (k : Rel (xz u i cp) r) : Rel (xz u i x) r := h ▸ k
theorem Rel.do {n : Int} {s : St} {r : RS} (h : Rel s r) (hg : yy n s) (c : Cmd) : (doR r c).2 = (doS s c).2 /\ Rel (doS s c).1 (doR r c).1 := by
 have hsv := YA h.pk
 unfold doR doS
 by_cases h1 : c.k = 1
 ·rw [if_pos h1, if_pos h1]
  by_cases ha : c.a < 0 \/ 15 < c.a \/ c.b < 1 \/ 64 < c.b
  ·rw [if_pos ha, if_neg (by simp only [Bool.and_eq_true, decide_eq_true_eq]; omega)]
   exact ⟨rfl, h⟩
  ·rw [if_neg ha, if_pos (by simp only [Bool.and_eq_true, decide_eq_true_eq]; omega)]
   refine ⟨rfl, ⟨fun i hi => ?_, h.vr, h.vm, h.cr, h.cm, h.nx⟩⟩
   show (if (i : Int) = c.a then c.b else r.pk i) = (if (i : Int) = c.a then c.b else s.pk i)
   rw [h.pk i hi]
 rw [if_neg h1, if_neg h1]
 by_cases h2 : c.k = 2
 ·rw [if_pos h2, if_pos h2]
  by_cases ha : c.a < 0 \/ 63 < c.a \/ c.b < 1 \/ 512 < c.b \/ c.c < 1 \/ 3 < c.c \/ yc c.p = false
  ·rw [if_pos ha, if_pos (by
    simp only [areB, Bool.not_eq_true', Bool.and_eq_false_iff, decide_eq_false_iff_not]
    rcases ha with ha | ha | ha | ha | ha | ha | ha
    ·left; left; left; omega
    ·left; left; left; omega
    ·left; left; right; omega
    ·left; left; right; omega
    ·left; right; omega
    ·left; right; omega
    ·right; exact ha)]
   exact ⟨rfl, h⟩
  ·have hr : yc c.p = true := by rw [<- Bool.not_eq_false]; exact fun e => ha (by simp [e])
   have hab : (0 <= c.a /\ c.a <= 63) /\ (1 <= c.b /\ c.b <= 512) /\ (1 <= c.c /\ c.c <= 3) := by omega
   have hcond : ¬ (!(decide (0 <= c.a /\ c.a <= 63) && areB c.b && decide (1 <= c.c /\ c.c <= 3) && yc c.p)) = true := by
    simp only [areB, hr, Bool.not_eq_true', Bool.not_eq_false, Bool.and_true, Bool.and_eq_true, decide_eq_true_eq]
    omega
   rw [if_neg ha, if_neg hcond]
   obtain ⟨i, hi⟩ := Int.eq_ofNat_of_zero_le hab.1.1
   have hi64 : i < 64 := by omega
   rw [hi, Int.toNat_natCast]
   by_cases hb : (s.vs i).bl > 0
   ·have hv : yB s (i : Int) = true := by
     simp only [yB, Bool.and_eq_true, decide_eq_true_eq, Int.toNat_natCast]
     omega
    obtain ⟨q, i', _, _, _, hq, _⟩ := h.volYes hv
    rw [hq, if_pos hb]
    exact ⟨rfl, h⟩
   ·have hz : (s.vs i).bl = 0 := by have := (hg.vs i hi64).bl; omega
    have hv : yB s (i : Int) = false := by
     simp only [yB, Bool.and_eq_false_iff, decide_eq_false_iff_not, Int.toNat_natCast]
     right; omega
    rw [h.volNo hv, if_neg hb]
    simp only
    rw [hsv]
    by_cases hl : ((zm s.pk).length : Int) < c.c
    ·rw [if_pos hl, if_pos hl]
     exact ⟨rfl, h⟩
    ·rw [if_neg hl, if_neg hl]
     refine ⟨rfl, ?_⟩
     have hvi := (hg.vs i hi64).zero hz
     have hno : ∀ x ∈ r.vs, x.id ≠ (i : Int) := fun x hx e => by
      obtain ⟨j, hj, hbj, rfl⟩ := (h.vm x).1 hx
      have : (j : Int) = (i : Int) := e
      have : j = i := by omega
      subst this
      exact hbj hz
     obtain ⟨s1, s2⟩ := h.vr.insert (k := xv r.vs (i : Int)) (a := (⟨(i : Int), c.b, c.p, 1, []⟩ : RV)) insAt_take (insAt_drop h.vr hno)
     obtain ⟨t, ht⟩ : ∃ t, Go.Proofs.YteebkolccbcehaaGreat.setV s i ⟨c.b, c.p, 1, []⟩ = t := ⟨_, rfl⟩
     have hti : t.vs i = ⟨c.b, c.p, 1, []⟩ := by rw [<- ht, zE]
     have hto : ∀ j, j ≠ i -> t.vs j = s.vs j := fun j e => by rw [<- ht, zA e]
     have hrel : Rel t { r with vs := r.vs.take (xv r.vs (i : Int)) ++ [⟨(i : Int), c.b, c.p, 1, []⟩] ++ r.vs.drop (xv r.vs (i : Int)) } := by
      refine ⟨by rw [<- ht]; exact h.pk, s1, fun x => ?_, h.cr, fun k => ?_, by rw [<- ht]; exact h.nx⟩
      ·rw [s2, h.vm]
       constructor
       ·rintro (rfl | ⟨j, hj, hbj, rfl⟩)
        ·exact ⟨i, hi64, by rw [hti]; show c.b ≠ 0; omega, by unfold rvOf; rw [hti]; rfl⟩
        ·have hji : j ≠ i := fun e => by subst e; exact hbj hz
         exact ⟨j, hj, by rw [hto j hji]; exact hbj, by unfold rvOf; rw [hto j hji]⟩
       ·rintro ⟨j, hj, hbj, rfl⟩
        by_cases e : j = i
        ·subst e
         left
         unfold rvOf
         rw [hti]
         rfl
        ·right
         rw [hto j e] at hbj
         exact ⟨j, hj, hbj, by unfold rvOf; rw [hto j e]⟩
      ·rw [h.cm]
       constructor
       ·rintro ⟨j, hj, hk⟩
        have hji : j ≠ i := fun e => by subst e; rw [hvi] at hk; cases hk
        exact ⟨j, hj, by rw [hto j hji]; exact hk⟩
       ·rintro ⟨j, hj, hk⟩
        by_cases e : j = i
        ·subst e; rw [hti] at hk; cases hk
        ·exact ⟨j, hj, by rwa [hto j e] at hk⟩
     have hpre : PreF t := by rw [<- ht]; exact QI hg hi64 (fun k hk => by cases hk) List.Pairwise.nil
     have hrv : rvOf t i = ⟨(i : Int), c.b, c.p, 1, []⟩ := by unfold rvOf; rw [hti]; rfl
     have hq : (r.vs.take (xv r.vs (i : Int)) ++ [(⟨(i : Int), c.b, c.p, 1, []⟩ : RV)] ++ r.vs.drop (xv r.vs (i : Int)))[xv r.vs (i : Int)]? = some (rvOf t i) := by
      have hle := insAt_le r.vs (i : Int)
      rw [List.append_assoc, List.getElem?_append_right (by rw [List.length_take]; omega), List.length_take, Nat.min_eq_left hle, Nat.sub_self, hrv]
      rfl
     have hfin := hrel.fill hpre hi64 (by rw [hti]; show c.b ≠ 0; omega) hq c.c.toNat (zx c.b).toNat
     rw [hrv] at hfin
     have e : xz t i c.c.toNat = xe t i c.c.toNat (zx c.b).toNat := by unfold xz; rw [hti]; rfl
     rw [ht, e]
     exact hfin
 rw [if_neg h2, if_neg h2]
 by_cases h3 : c.k = 3
 ·rw [if_pos h3, if_pos h3]
  cases hv : yB s c.a with
  | false =>
   rw [h.volNo hv]
   exact ⟨rfl, h⟩
  | true =>
   obtain ⟨q, i, hia, hi, hb, hq1, hq2⟩ := h.volYes hv
   rw [hq1, hia, Int.toNat_natCast]
   simp only [hq2, if_true]
   refine ⟨by first | rfl | trivial, ?_⟩
   obtain ⟨s1, s2⟩ := h.vr.erase hq2
   refine ⟨h.pk, s1, fun x => ?_, h.cr.filter _, fun k => ?_, h.nx⟩
   ·rw [s2, h.vm]
    constructor
    ·rintro ⟨⟨j, hj, hbj, rfl⟩, hne⟩
     have hji : j ≠ i := fun e => hne (by subst e; rfl)
     exact ⟨j, hj, by rw [zA hji]; exact hbj, by unfold rvOf; rw [zA hji]⟩
    ·rintro ⟨j, hj, hbj, rfl⟩
     by_cases e : j = i
     ·subst e
      rw [zE] at hbj
      exact absurd rfl hbj
     ·rw [zA e] at hbj
      refine ⟨⟨j, hj, hbj, by unfold rvOf; rw [zA e]⟩, fun e2 => e ?_⟩
      have : (j : Int) = (i : Int) := e2
      omega
   ·rw [List.mem_filter, h.cm]
    simp only [Bool.not_eq_true', decide_eq_false_iff_not]
    constructor
    ·rintro ⟨⟨j, hj, hk⟩, hno⟩
     have hji : j ≠ i := fun e => hno (by subst e; exact List.mem_map.2 ⟨k, hk, rfl⟩)
     exact ⟨j, hj, by rw [zA hji]; exact hk⟩
    ·rintro ⟨j, hj, hk⟩
     by_cases e : j = i
     ·subst e
      rw [zE] at hk
      cases hk
     ·rw [zA e] at hk
      refine ⟨⟨j, hj, hk⟩, fun hin => e ?_⟩
      obtain ⟨k', hk', hid⟩ := List.mem_map.1 hin
      exact hg.ord.one j i hj hi k hk k' hk' hid.symm
 rw [if_neg h3, if_neg h3]
 by_cases h4 : c.k = 4
 ·rw [if_pos h4, if_pos h4]
  by_cases hbb : c.b < 1 \/ 512 < c.b
  ·rw [if_pos hbb, if_pos (by unfold areB; rw [decide_eq_false_iff_not]; omega)]
   exact ⟨rfl, h⟩
  ·rw [if_neg hbb, if_neg (by unfold areB; rw [Bool.not_eq_false, decide_eq_true_eq]; omega)]
   cases hv : yB s c.a with
   | false =>
    rw [h.volNo hv, if_pos rfl]
    exact ⟨rfl, h⟩
   | true =>
    obtain ⟨q, i, hia, hi, hb, hq1, hq2⟩ := h.volYes hv
    rw [hq1, hia, Int.toNat_natCast, if_neg (by decide)]
    simp only [hq2]
    refine ⟨by first | rfl | trivial, ?_⟩
    obtain ⟨M, hM⟩ : ∃ M, (zx c.b).toNat = M := ⟨_, rfl⟩
    have hM1 : 1 <= M := by unfold zx at hM; omega
    rw [hM]
    have hil : (rvOf s i).ids.length = (s.vs i).ks.length := by simp [rvOf, idsK]
    rw [hil]
    obtain ⟨L, hL⟩ : ∃ L, (s.vs i).ks.length = L := ⟨_, rfl⟩
    rw [hL]
    obtain ⟨u, hu⟩ : ∃ u : Vol, { s.vs i with bl := c.b, ks := (s.vs i).ks.take M } = u := ⟨_, rfl⟩
    have hub : u.bl = c.b /\ u.p = (s.vs i).p /\ u.ver = (s.vs i).ver /\ u.ks = (s.vs i).ks.take M := by rw [<- hu]; exact ⟨rfl, rfl, rfl, rfl⟩
    rw [hu]
    have hne := hg.ne i hi hb
    obtain ⟨cp, hcp⟩ : ∃ cp : Nat, (match (s.vs i).ks.take M with | k :: _ => k.ms.length | [] => 0) = cp := ⟨_, rfl⟩
    refine rel_copies hcp ?_
    have hcp2 : Y6 r (rvOf s i) = cp := by
     cases hk : (s.vs i).ks with
     | nil => exact absurd hk hne
     | cons k l =>
      obtain ⟨M', rfl⟩ : ∃ M', M = M' + 1 := ⟨M - 1, by omega⟩
      rw [hk, List.take_succ_cons] at hcp
      have e1 : (rvOf s i).ids = k.id :: idsK l := by simp [rvOf, hk, idsK]
      obtain ⟨p, hp1, hp2⟩ := h.chYes (id := k.id) (i := i) (j := 0) (k := k) ⟨hi, by rw [hk]; rfl, rfl⟩
      unfold Y6
      rw [e1]
      simp only [hp1, hp2]
      exact hcp
    rw [hcp2]
    obtain ⟨t, ht⟩ : ∃ t, Go.Proofs.YteebkolccbcehaaGreat.setV s i u = t := ⟨_, rfl⟩
    have hti : t.vs i = u := by rw [<- ht, zE]
    have htake : (rvOf s i).ids.take (min M L) = idsK u.ks := by
     rw [hub.2.2.2, <- hL, <- hil, take_min]
     simp [rvOf, idsK, List.map_take]
    have hrk : Zl u.ks := by rw [hub.2.2.2]; exact (hg.ord.rise i hi).sublist (List.take_sublist _ _)
    have hrel : Rel t (cutR r q (rvOf s i) (min M L) c.b) := by
     have hsp : ∀ k, k ∈ (s.vs i).ks -> (k.id ∈ (rvOf s i).ids.drop (min M L) ↔ k ∉ u.ks) := fun k hk => by
      have e1 : (rvOf s i).ids.drop (min M L) = idsK ((s.vs i).ks.drop (min M L)) := by simp [rvOf, idsK, List.map_drop]
      have e2 : u.ks = (s.vs i).ks.take (min M L) := by rw [hub.2.2.2, <- hL, take_min]
      rw [e1, e2]
      have hr := hg.ord.rise i hi
      have hsplit := hr
      unfold Zl at hsplit
      rw [<- List.take_append_drop (min M L) (s.vs i).ks] at hsplit
      obtain ⟨_, _, p3⟩ := List.pairwise_append.1 hsplit
      constructor
      ·intro hin hk2
       obtain ⟨k', hk', hid⟩ := List.mem_map.1 hin
       have := p3 k hk2 k' hk'
       omega
      ·intro hno
       rw [<- List.take_append_drop (min M L) (s.vs i).ks] at hk
       rcases List.mem_append.1 hk with hk | hk
       ·exact absurd hk hno
       ·exact List.mem_map.2 ⟨k, hk, rfl⟩
     have key := h.setV hg (v := u) (cs := r.cs.filter (fun k => !decide (k.id ∈ (rvOf s i).ids.drop (min M L)))) hi hq2 (by rw [hub.1]; omega) (h.cr.filter _) (fun k => by
      rw [List.mem_filter]
      simp only [Bool.not_eq_true', decide_eq_false_iff_not]
      constructor
      ·rintro ⟨hk, hno⟩
       by_cases hvo : k.vo = (i : Int)
       ·obtain ⟨j, hj, hkj⟩ := (h.cm k).1 hk
        have := ((hg.vs j hj).ks k hkj).vo
        have : j = i := by omega
        subst this
        right
        rw [hsp k hkj] at hno
        exact Classical.not_not.1 hno
       ·exact .inl ⟨hk, hvo⟩
      ·rintro (⟨hk, hvo⟩ | hk)
       ·refine ⟨hk, fun hin => hvo ?_⟩
        obtain ⟨k', hk', hid⟩ := List.mem_map.1 (List.mem_of_mem_drop hin)
        obtain ⟨j, hj, hkj⟩ := (h.cm k).1 hk
        have := hg.ord.one j i hj hi k hkj k' hk' hid.symm
        subst this
        exact ((hg.vs j hj).ks k hkj).vo
       ·have hk2 : k ∈ (s.vs i).ks := by rw [hub.2.2.2] at hk; exact List.mem_of_mem_take hk
        refine ⟨(h.cm k).2 ⟨i, hi, hk2⟩, fun hin => ?_⟩
        exact (hsp k hk2).1 hin hk)
     rw [ht] at key
     have e : (⟨(i : Int), u.bl, u.p, u.ver, idsK u.ks⟩ : RV) = { rvOf s i with bl := c.b, ids := (rvOf s i).ids.take (min M L) } := by
      rw [htake, hub.1, hub.2.1, hub.2.2.1]
      rfl
     rw [e] at key
     exact key
    have hpre : PreF t := by rw [<- ht]; exact QI hg hi (fun k hk => by rw [hub.2.2.2] at hk; exact List.mem_of_mem_take hk) hrk
    have hrv : rvOf t i = { rvOf s i with bl := c.b, ids := (rvOf s i).ids.take (min M L) } := by
     rw [htake]
     unfold rvOf
     rw [hti, hub.1, hub.2.1, hub.2.2.1]
    have hq : (cutR r q (rvOf s i) (min M L) c.b).vs[q]? = some (rvOf t i) := by
     show (r.vs.set q _)[q]? = _
     rw [List.getElem?_set, if_pos rfl, if_pos (List.getElem?_eq_some_iff.1 hq2).1, hrv]
    have hfin := hrel.fill hpre hi (by rw [hti, hub.1]; omega) hq cp (M - min M L)
    rw [hrv] at hfin
    have e : xz t i cp = xe t i cp (M - min M L) := by
     unfold xz
     rw [hti, hub.1, hM, hub.2.2.2, List.length_take, hL]
    rw [ht, e]
    exact hfin
 rw [if_neg h4, if_neg h4]
 by_cases h5 : c.k = 5
 ·rw [if_pos h5, if_pos h5]
  by_cases hr : yc c.p = false
  ·rw [if_pos hr, if_pos hr]; exact ⟨rfl, h⟩
  ·rw [if_neg hr, if_neg hr]
   cases hv : yB s c.a with
   | false =>
    rw [h.volNo hv, if_pos rfl]
    exact ⟨rfl, h⟩
   | true =>
    obtain ⟨q, i, hia, hi, hb, hq1, hq2⟩ := h.volYes hv
    rw [hq1, hia, Int.toNat_natCast, if_neg (by decide)]
    simp only [hq2]
    refine ⟨by first | rfl | trivial, ?_⟩
    have key := h.setV hg (v := { s.vs i with p := c.p, ver := (s.vs i).ver + 1 }) (cs := r.cs) hi hq2 hb h.cr (fun k => by
     constructor
     ·intro hk
      by_cases hvo : k.vo = (i : Int)
      ·obtain ⟨j, hj, hkj⟩ := (h.cm k).1 hk
       have := ((hg.vs j hj).ks k hkj).vo
       have : j = i := by omega
       subst this
       exact .inr hkj
      ·exact .inl ⟨hk, hvo⟩
     ·rintro (⟨hk, _⟩ | hk)
      ·exact hk
      ·exact (h.cm k).2 ⟨i, hi, hk⟩)
    exact key
 rw [if_neg h5, if_neg h5]
 exact h.chunk hg c
theorem Rel.apply {n : Int} {s : St} {r : RS} (h : Rel s r) (hg : xS n s) (hn : 0 <= n) {c : Cmd} (hc : yj c) : (ZY r c).2 = (yR s c).2 /\ Rel (yR s c).1 (ZY r c).1 := by
 obtain ⟨h1, h2⟩ := h.do hg.d c
 have hgd := (Y5 hg.d hn hc).1
 unfold ZY yR
 by_cases hk : 1 <= c.k /\ c.k <= 8
 ·rw [if_pos hk, if_pos hk, h1]
  by_cases he : (doS s c).2 ≠ 0
  ·rw [if_pos he, if_pos he]; exact ⟨rfl, h⟩
  ·rw [if_neg he, if_neg he, h2.adm hgd]
   by_cases ha : admS (doS s c).1 = true
   ·rw [if_pos ha, if_pos ha]; exact ⟨rfl, h2⟩
   ·rw [if_neg ha, if_neg ha]; exact ⟨rfl, h⟩
 ·rw [if_neg hk, if_neg hk]; exact ⟨rfl, h⟩
end Go.Proofs.YteebkolccbcehaaGreat
end
