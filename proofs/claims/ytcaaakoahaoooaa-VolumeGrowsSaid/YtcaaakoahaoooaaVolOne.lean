/-
  A state with one server, 0, and one volume, 9: its policies, and what a command that sets a policy makes of it. Plain lists and integers. Conditions: a right state.
-/
import Derived.Test.YtcaaakoahaoooaaVolAw2
namespace Go.Proofs.Ytcaaakoahaoooaa
open Go.ChangeShapes Go.WideShapes Go.ChangeAt Go.RowKit
set_option linter.unusedVariables false
set_option linter.unusedSimpArgs false

structure OneD (n : Int) (s : St) : Prop where
  d : GoodD n s
  pk : ∀ i, i < 16 → (0 < s.pk i ↔ i = 0)
  cap : s.pk 0 = 2
  vol : isVol s 9 = true
  oth : ∀ i, i < 64 → i ≠ 9 → s.vs i = vol0
theorem filter_one : ∀ (n a : Nat), a < n → (List.range n).filter (fun i => decide (i = a)) = [a]
  | 0, a, h => by omega
  | n + 1, a, h => by
    rw [List.range_succ, List.filter_append]
    by_cases e : a = n
    · subst e
      have : (List.range a).filter (fun i => decide (i = a)) = [] := by
        rw [List.filter_eq_nil_iff]
        intro x hx
        have := List.mem_range.1 hx
        simp
        omega
      rw [this]
      simp
    · rw [filter_one n a (by omega)]
      have : ¬ n = a := fun h => e h.symm
      simp [this]
theorem OneD.servers {n : Int} {s : St} (h : OneD n s) : serversL s.pk = [0] := by
  unfold serversL
  rw [← filter_one 16 0 (by omega)]
  apply List.filter_congr
  intro x hx
  exact decide_eq_decide.2 (h.pk x (List.mem_range.1 hx))
theorem OneD.bl {n : Int} {s : St} (h : OneD n s) : (s.vs 9).bl ≠ 0 := by
  have := h.vol
  unfold isVol at this
  simp at this
  exact this
theorem OneD.pols {n : Int} {s : St} (h : OneD n s) : polsS s 0 = [(s.vs 9).p] := by
  unfold polsS
  have : (List.range 64).filter (fun i => (s.vs i).ks.any (hasK 0)) = (List.range 64).filter (fun i => decide (i = 9)) := by
    apply List.filter_congr
    intro x hx
    have hx64 := List.mem_range.1 hx
    by_cases e : x = 9
    · subst e
      have hne := h.d.ne 9 hx64 h.bl
      simp only [decide_true, List.any_eq_true]
      cases hk : (s.vs 9).ks with
      | nil => exact absurd hk hne
      | cons k r =>
        have hg := (h.d.vs 9 hx64).ks k (by rw [hk]; simp)
        refine ⟨k, by simp, ?_⟩
        cases hm : k.ms with
        | nil => exact absurd hm hg.ne
        | cons y t =>
          have hs := hg.srv y (by rw [hm]; simp)
          unfold srvP at hs
          have hy : y = 0 := by
            have := (h.pk y.toNat (by omega)).1 hs.2.2
            omega
          unfold hasK
          rw [hm, hy]
          simp
    · rw [h.oth x hx64 e, decide_eq_false e]
      rfl
  rw [this, filter_one 64 9 (by omega)]
  rfl
theorem OneD.adm {n : Int} {s : St} (h : OneD n s) : admS s = admitsP 2 [(s.vs 9).p] := by
  unfold admS
  rw [h.servers]
  simp only [List.all_cons, List.all_nil, Bool.and_true]
  rw [h.cap]
  have := h.pols
  show admitsP 2 (polsS s 0) = _
  rw [this]
/-- a policy told to volume 9 -/
def cPol (p : Pol) : Cmd := ⟨5, 9, 0, 0, p⟩
theorem cPol_in {p : Pol} (h : InP p) : CmdIn (cPol p) := by
  refine ⟨?_, ?_, ?_, ?_, h⟩ <;> (simp only [cPol, In64]; omega)
theorem OneD.step {n : Int} {s : St} (h : OneD n s) (hn : 0 ≤ n) {p : Pol} (hp : InP p) :
    (admitsP 2 [p] = true ∧ applyS s (cPol p) = (setV s 9 { s.vs 9 with p := p, ver := (s.vs 9).ver + 1 }, 0) ∧ OneD (n + 1) (setV s 9 { s.vs 9 with p := p, ver := (s.vs 9).ver + 1 })) ∨
    (admitsP 2 [p] = false ∧ ∃ e, e ≠ 0 ∧ applyS s (cPol p) = (s, e)) := by
  obtain ⟨s', hs'⟩ : ∃ s', setV s 9 { s.vs 9 with p := p, ver := (s.vs 9).ver + 1 } = s' := ⟨_, rfl⟩
  rw [hs']
  by_cases hr : rightP p = false
  · right
    refine ⟨?_, 1, by decide, ?_⟩
    · unfold admitsP allP
      simp [hr]
    · have hd : doS s (cPol p) = (s, 1) := by
        unfold doS
        rw [if_neg (by simp [cPol]), if_neg (by simp [cPol]), if_neg (by simp [cPol]), if_neg (by simp [cPol]), if_pos (by simp [cPol]), if_pos (show rightP (cPol p).p = false from hr)]
      unfold applyS
      rw [if_pos (by simp [cPol]), hd, if_pos (show ((1 : Int)) ≠ 0 by decide)]
  · have hd : doS s (cPol p) = (s', 0) := by
      unfold doS
      rw [if_neg (by simp [cPol]), if_neg (by simp [cPol]), if_neg (by simp [cPol]), if_neg (by simp [cPol]), if_pos (by simp [cPol]), if_neg (show ¬ rightP (cPol p).p = false from hr), if_neg (by rw [show (cPol p).a = 9 from rfl, h.vol]; decide)]
      rw [← hs']
      rfl
    have hg := (doS_good h.d hn (cPol_in hp)).1
    rw [hd] at hg
    have h1 : OneD (n + 1) s' := by
      refine ⟨hg, ?_, ?_, ?_, ?_⟩
      · rw [← hs']; exact h.pk
      · rw [← hs']; exact h.cap
      · have := h.bl
        rw [← hs']
        unfold isVol
        rw [show (9 : Int).toNat = 9 from rfl, setV_same]
        simpa using this
      · intro i hi hne
        rw [← hs', setV_other hne]
        exact h.oth i hi hne
    have ha := h1.adm
    have hv : (s'.vs 9).p = p := by rw [← hs', setV_same]
    rw [hv] at ha
    have hap : applyS s (cPol p) = if admS s' = true then (s', 0) else (s, 14) := by
      unfold applyS
      rw [if_pos (by simp [cPol]), hd, if_neg (show ¬ ((0 : Int)) ≠ 0 by decide)]
    rw [hap, ha]
    cases hb : admitsP 2 [p] with
    | true => left; exact ⟨rfl, by simp, h1⟩
    | false => right; exact ⟨rfl, 14, by decide, by simp⟩
/-! ### how it is made -/
def cP1 : Cmd := ⟨1, 0, 2, 0, pol0⟩
def pW : Pol := ⟨0, 1, 0, 0⟩
def cP2 (nb : Int) : Cmd := ⟨2, 9, nb, 1, pW⟩
def sP1 : St := ⟨fun i => if (i : Int) = 0 then 2 else 0, fun _ => vol0, 0⟩
theorem cP1_in : CmdIn cP1 := by constructor <;> (simp only [cP1, pol0, InP, In64]; omega)
theorem cP2_in {nb : Int} (h : 1 ≤ nb ∧ nb ≤ 512) : CmdIn (cP2 nb) := by constructor <;> (simp only [cP2, pW, InP, In64]; omega)
theorem adm_P1 : admS sP1 = true := by kernel_rfl
theorem mk1 : applyS st0 cP1 = (sP1, 0) := by
  have h : doS st0 cP1 = (sP1, 0) := by
    unfold doS
    rw [if_pos (show cP1.k = 1 from rfl), if_pos (by decide)]
    rfl
  unfold applyS
  rw [if_pos (by decide), h]
  simp [adm_P1]
theorem goodP1 : GoodS 1 sP1 := by
  have := (applyS_good good0 (Int.le_refl 0) cP1_in).1
  rwa [mk1] at this
theorem servers_P1 : serversL sP1.pk = [0] := by kernel_rfl
theorem mk2 {nb : Int} (h : 1 ≤ nb ∧ nb ≤ 512) : ∃ s, applyS sP1 (cP2 nb) = (s, 0) ∧ OneD 2 s := by
  obtain ⟨s, hs⟩ : ∃ s, fillS (setV sP1 9 ⟨nb, pW, 1, []⟩) 9 1 = s := ⟨_, rfl⟩
  have hd : doS sP1 (cP2 nb) = (s, 0) := by
    unfold doS
    have e1 : (!(decide (0 ≤ (cP2 nb).a ∧ (cP2 nb).a ≤ 63) && areB (cP2 nb).b && decide (1 ≤ (cP2 nb).c ∧ (cP2 nb).c ≤ 3) && rightP (cP2 nb).p)) = false := by
      have : areB nb = true := by unfold areB; exact decide_eq_true h
      show (!(decide (0 ≤ (9 : Int) ∧ (9 : Int) ≤ 63) && areB nb && decide (1 ≤ (1 : Int) ∧ (1 : Int) ≤ 3) && rightP pW)) = false
      rw [this]
      decide
    rw [if_neg (by simp [cP2]), if_pos (show (cP2 nb).k = 2 from rfl), if_neg (by rw [e1]; decide), if_neg (by show ¬ (sP1.vs 9).bl > 0; decide), if_neg (by rw [servers_P1]; show ¬ (([0] : List Nat).length : Int) < 1; decide)]
    rw [← hs]
    rfl
  have hg := (doS_good goodP1.d (by decide) (cP2_in h)).1
  rw [hd] at hg
  have hpk : s.pk = sP1.pk := by rw [← hs]; rfl
  have hv9 : (s.vs 9).bl = nb ∧ (s.vs 9).p = pW := by
    rw [← hs]
    unfold fillS fillQ
    constructor
    · show ((setV (setV sP1 9 ⟨nb, pW, 1, []⟩) 9 _).vs 9).bl = nb
      rw [setV_same]
      show ((setV sP1 9 ⟨nb, pW, 1, []⟩).vs 9).bl = nb
      rw [setV_same]
    · show ((setV (setV sP1 9 ⟨nb, pW, 1, []⟩) 9 _).vs 9).p = pW
      rw [setV_same]
      show ((setV sP1 9 ⟨nb, pW, 1, []⟩).vs 9).p = pW
      rw [setV_same]
  have h1 : OneD 2 s := by
    refine ⟨hg, ?_, ?_, ?_, ?_⟩
    · rw [hpk]
      intro i hi
      show 0 < (if (i : Int) = 0 then (2 : Int) else 0) ↔ i = 0
      split <;> omega
    · rw [hpk]; rfl
    · unfold isVol
      rw [show (9 : Int).toNat = 9 from rfl, hv9.1]
      simp
      omega
    · intro i hi hne
      rw [← hs]
      unfold fillS
      rw [fillQ_other _ _ _ _ _ hne, setV_other hne]
      rfl
  refine ⟨s, ?_, h1⟩
  have ha := h1.adm
  rw [hv9.2, show admitsP 2 [pW] = true by kernel_rfl] at ha
  unfold applyS
  rw [if_pos (by simp [cP2]), hd, if_neg (show ¬ ((0 : Int)) ≠ 0 by decide), if_pos ha]
end Go.Proofs.Ytcaaakoahaoooaa
