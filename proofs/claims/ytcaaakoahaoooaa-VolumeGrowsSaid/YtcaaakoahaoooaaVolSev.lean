/-
  A state with three servers and one volume, 7: it is admitted, how it is made, what a resize makes of it, its chunks' numbers. Plain lists and integers. Conditions: a right state.
-/
import Derived.Test.YtcaaakoahaoooaaVolOne
namespace Go.Proofs.Ytcaaakoahaoooaa
open Go.ChangeShapes Go.WideShapes Go.ChangeAt Go.RowKit
set_option linter.unusedVariables false
set_option linter.unusedSimpArgs false

def pk3 (j : Nat) : Nat → Int := fun i => if i < j then 9 else 0
structure SevD (n : Int) (s : St) : Prop where
  d : GoodD n s
  pk : s.pk = pk3 3
  bl : 1 ≤ (s.vs 7).bl ∧ (s.vs 7).bl ≤ 512
  p : (s.vs 7).p = pW
  ver : (s.vs 7).ver = 1
  oth : ∀ i, i < 64 → i ≠ 7 → s.vs i = vol0
theorem filter_at (q : Nat → Bool) : ∀ (n a : Nat), a < n → (∀ i, i < n → i ≠ a → q i = false) → (List.range n).filter q = if q a then [a] else []
  | 0, a, h, _ => by omega
  | n + 1, a, h, hq => by
    rw [List.range_succ, List.filter_append]
    by_cases e : a = n
    · subst e
      have : (List.range a).filter q = [] := by
        rw [List.filter_eq_nil_iff]
        intro x hx
        have := List.mem_range.1 hx
        rw [hq x (by omega) (by omega)]
        decide
      rw [this]
      cases hqa : q a <;> simp [hqa]
    · have h1 : List.filter q [n] = [] := by simp [hq n (by omega) (fun h => e h.symm)]
      rw [filter_at q n a (by omega) (fun i hi hne => hq i (by omega) hne), h1, List.append_nil]
theorem SevD.pols {n : Int} {s : St} (h : SevD n s) (sv : Int) : polsS s sv = [] ∨ polsS s sv = [pW] := by
  unfold polsS
  rw [filter_at (fun i => (s.vs i).ks.any (hasK sv)) 64 7 (by omega) (fun i hi hne => by
    show (s.vs i).ks.any (hasK sv) = false
    rw [h.oth i hi hne]; rfl)]
  split
  · right
    simp [h.p]
  · left; rfl
theorem servers3 : serversL (pk3 3) = [0, 1, 2] := by kernel_rfl
theorem adm9a : admitsP 9 [] = true := by kernel_rfl
theorem adm9b : admitsP 9 [pW] = true := by kernel_rfl
theorem SevD.adm {n : Int} {s : St} (h : SevD n s) : admS s = true := by
  unfold admS
  rw [h.pk, servers3]
  have hp : ∀ i : Nat, i < 3 → admitsP (pk3 3 i) (polsS s (i : Int)) = true := fun i hi => by
    have e : pk3 3 i = 9 := if_pos hi
    rw [e]
    rcases h.pols (i : Int) with h1 | h1
    · rw [h1]; exact adm9a
    · rw [h1]; exact adm9b
  rw [List.all_eq_true]
  intro x hx
  simp at hx
  rcases hx with rfl | rfl | rfl
  · exact hp 0 (by omega)
  · exact hp 1 (by omega)
  · exact hp 2 (by omega)
theorem SevD.vol {n : Int} {s : St} (h : SevD n s) : isVol s 7 = true := by
  unfold isVol
  have := h.bl
  rw [show (7 : Int).toNat = 7 from rfl]
  simp
  omega
/-! ### numbers of chunks -/
def numsF (md : Int) (q : Nat) : List Int := (List.range q).map fun (j : Nat) => md + 1 + (j : Int)
theorem ids_fill (ids : List Nat) (vo : Int) (copies : Nat) (md : Int) (hv : List Int) : ∀ q : Nat, idsK (fillK ids vo copies md hv q) = numsF md q
  | 0 => rfl
  | q + 1 => by
    have := ids_fill ids vo copies md hv q
    unfold idsK numsF at *
    rw [fillK, List.map_append, this, List.range_succ, List.map_append]
    simp
    omega
theorem all_seven {n : Int} {s : St} (h : SevD n s) : ∀ m : Nat, m ≤ 64 → allKs s m = if 7 < m then (s.vs 7).ks else []
  | 0, _ => rfl
  | m + 1, hm => by
    rw [allKs_succ, all_seven h m (by omega)]
    by_cases e : m = 7
    · subst e
      simp
    · rw [h.oth m (by omega) e]
      by_cases h7 : 7 < m
      · rw [if_pos h7, if_pos (by omega)]; simp [vol0]
      · rw [if_neg h7, if_neg (by omega)]; simp [vol0]
theorem SevD.count {n : Int} {s : St} (h : SevD n s) : (sortI (idsK (allKs s 64))).length = (s.vs 7).ks.length := by
  rw [sortI_length, all_seven h 64 (by omega), if_pos (by omega)]
  simp [idsK]
/-- chunk 1 -/
theorem SevD.first {n : Int} {s : St} (h : SevD n s) {k : Chk} {r : List Chk} (hk : (s.vs 7).ks = k :: r) (hid : k.id = 1) : ∃ j, findS s 1 = some (7, j, k) := by
  cases hf : findS s 1 with
  | none =>
    exact absurd hid (findS_none hf 7 (by omega) k (by rw [hk]; simp))
  | some x =>
    obtain ⟨i, j, k'⟩ := x
    have hfa := findS_some hf
    obtain ⟨h1, h2, h3⟩ := h.d.ord.uniq (a := hfa) (b := (⟨by omega, by rw [hk]; rfl, hid⟩ : FoundAt s 1 7 0 k))
    subst h1; subst h2; subst h3
    exact ⟨0, rfl⟩
/-! ### how it is made -/
def cS (i : Int) : Cmd := ⟨1, i, 9, 0, pol0⟩
def cMk (nb : Int) : Cmd := ⟨2, 7, nb, 2, pW⟩
def cRs (m : Int) : Cmd := ⟨4, 7, m, 0, pol0⟩
def s3 (j : Nat) : St := ⟨pk3 j, fun _ => vol0, 0⟩
theorem s3_zero : s3 0 = st0 := by
  unfold s3 st0
  congr 1
theorem cS_in {i : Nat} (h : i < 3) : CmdIn (cS (i : Int)) := by constructor <;> (simp only [cS, pol0, InP, In64]; omega)
theorem cMk_in {nb : Int} (h : 1 ≤ nb ∧ nb ≤ 512) : CmdIn (cMk nb) := by constructor <;> (simp only [cMk, pW, InP, In64]; omega)
theorem cRs_in {m : Int} (h : 1 ≤ m ∧ m ≤ 512) : CmdIn (cRs m) := by constructor <;> (simp only [cRs, pol0, InP, In64]; omega)
theorem adm_none {pk : Nat → Int} (h : ∀ x ∈ serversL pk, pk x = 9) : admS ⟨pk, fun _ => vol0, 0⟩ = true := by
  unfold admS
  rw [List.all_eq_true]
  intro x hx
  have hp : polsS ⟨pk, fun _ => vol0, 0⟩ (x : Int) = [] := by
    unfold polsS
    have : (List.range 64).filter (fun i => ((⟨pk, fun _ => vol0, 0⟩ : St).vs i).ks.any (hasK (x : Int))) = [] := by
      rw [List.filter_eq_nil_iff]
      intro i _
      show ¬ (vol0.ks.any (hasK (x : Int))) = true
      simp [vol0]
    rw [this]
    rfl
  rw [hp]
  show admitsP (pk x) [] = true
  rw [h x hx]
  kernel_rfl
theorem mkS {j : Nat} (h : j < 3) : applyS (s3 j) (cS (j : Int)) = (s3 (j + 1), 0) := by
  have hd : doS (s3 j) (cS (j : Int)) = (s3 (j + 1), 0) := by
    unfold doS
    rw [if_pos (show (cS (j : Int)).k = 1 from rfl), if_pos (by
      show (decide (0 ≤ (j : Int) ∧ (j : Int) ≤ 15) && decide (1 ≤ (9 : Int) ∧ (9 : Int) ≤ 64)) = true
      rw [decide_eq_true (by omega : 0 ≤ (j : Int) ∧ (j : Int) ≤ 15)]
      rfl)]
    unfold s3
    congr 2
    funext i
    show (if (i : Int) = (j : Int) then (9 : Int) else pk3 j i) = pk3 (j + 1) i
    unfold pk3
    by_cases e : i = j
    · subst e; simp
    · rw [if_neg (by omega)]
      by_cases h2 : i < j
      · rw [if_pos h2, if_pos (by omega)]
      · rw [if_neg h2, if_neg (by omega)]
  have ha : admS (s3 (j + 1)) = true := adm_none fun x hx => by
    have := (mem_servers hx).2
    unfold pk3 at this ⊢
    split
    · rfl
    · rename_i h; rw [if_neg h] at this; omega
  unfold applyS
  rw [if_pos (by simp [cS]), hd, if_neg (show ¬ ((0 : Int)) ≠ 0 by decide), if_pos ha]
theorem good3 : ∀ j : Nat, j ≤ 3 → GoodS (j : Int) (s3 j)
  | 0, _ => by rw [s3_zero]; exact good0
  | j + 1, h => by
    have := (applyS_good (good3 j (by omega)) (by omega) (cS_in (i := j) (by omega))).1
    rw [mkS (by omega)] at this
    rwa [show ((j + 1 : Nat) : Int) = (j : Int) + 1 by omega]
theorem cnt_bd {b : Int} (h : 1 ≤ b ∧ b ≤ 512) : 1 ≤ countF b ∧ countF b ≤ 64 := by unfold countF; omega
theorem mkV {nb : Int} (h : 1 ≤ nb ∧ nb ≤ 512) : ∃ s, applyS (s3 3) (cMk nb) = (s, 0) ∧ SevD 4 s ∧ idsK (s.vs 7).ks = numsF 0 (countF nb).toNat ∧ s.md = countF nb := by
  obtain ⟨s, hs⟩ : ∃ s, fillS (setV (s3 3) 7 ⟨nb, pW, 1, []⟩) 7 2 = s := ⟨_, rfl⟩
  have hc := cnt_bd h
  have hd : doS (s3 3) (cMk nb) = (s, 0) := by
    unfold doS
    have e1 : (!(decide (0 ≤ (cMk nb).a ∧ (cMk nb).a ≤ 63) && areB (cMk nb).b && decide (1 ≤ (cMk nb).c ∧ (cMk nb).c ≤ 3) && rightP (cMk nb).p)) = false := by
      have : areB nb = true := by unfold areB; exact decide_eq_true h
      show (!(decide (0 ≤ (7 : Int) ∧ (7 : Int) ≤ 63) && areB nb && decide (1 ≤ (2 : Int) ∧ (2 : Int) ≤ 3) && rightP pW)) = false
      rw [this]
      decide
    rw [if_neg (by simp [cMk]), if_pos (show (cMk nb).k = 2 from rfl), if_neg (by rw [e1]; decide), if_neg (by show ¬ ((s3 3).vs 7).bl > 0; decide), if_neg (by rw [show serversL (s3 3).pk = [0, 1, 2] from servers3]; show ¬ (([0, 1, 2] : List Nat).length : Int) < 2; decide)]
    rw [← hs]
    rfl
  have hg := (doS_good (good3 3 (by omega)).d (by decide) (cMk_in h)).1
  rw [hd] at hg
  obtain ⟨hv, hhv⟩ : ∃ hv, flatK (allKs (setV (s3 3) 7 ⟨nb, pW, 1, []⟩) 64) = hv := ⟨_, rfl⟩
  have hvs : s.vs 7 = ⟨nb, pW, 1, fillK (serversL (s3 3).pk) 7 2 0 hv (countF nb).toNat⟩ := by
    rw [← hs]
    unfold fillS fillQ
    show (setV (setV (s3 3) 7 ⟨nb, pW, 1, []⟩) 7 _).vs 7 = _
    rw [setV_same, setV_same, hhv]
    rfl
  have h1 : SevD 4 s := by
    refine ⟨hg, ?_, ?_, ?_, ?_, ?_⟩
    · rw [← hs]; rfl
    · rw [hvs]; exact h
    · rw [hvs]
    · rw [hvs]
    · intro i hi hne
      rw [← hs]
      unfold fillS
      rw [fillQ_other _ _ _ _ _ hne, setV_other hne]
      rfl
  refine ⟨s, ?_, h1, ?_, ?_⟩
  · unfold applyS
    rw [if_pos (by simp [cMk]), hd, if_neg (show ¬ ((0 : Int)) ≠ 0 by decide), if_pos h1.adm]
  · rw [hvs]
    exact ids_fill _ _ _ _ _ _
  · rw [← hs]
    unfold fillS fillQ
    show (0 : Int) + (((countF ((setV (s3 3) 7 ⟨nb, pW, 1, []⟩).vs 7).bl).toNat - ((setV (s3 3) 7 ⟨nb, pW, 1, []⟩).vs 7).ks.length : Nat) : Int) = _
    rw [setV_same]
    show (0 : Int) + (((countF nb).toNat - 0 : Nat) : Int) = _
    omega
/-- a resize -/
theorem SevD.resize {n : Int} {s : St} (h : SevD n s) (hn : 0 ≤ n) {m : Int} (hm : 1 ≤ m ∧ m ≤ 512) :
    ∃ s', applyS s (cRs m) = (s', 0) ∧ SevD (n + 1) s' ∧ (∃ F, (s'.vs 7).ks = (s.vs 7).ks.take (countF m).toNat ++ F) ∧
      idsK (s'.vs 7).ks = (idsK (s.vs 7).ks).take (countF m).toNat ++ numsF s.md ((countF m).toNat - (s.vs 7).ks.length) ∧ s'.md = s.md + (((countF m).toNat - (s.vs 7).ks.length : Nat) : Int) := by
  have hc := cnt_bd hm
  obtain ⟨M, hM⟩ : ∃ M, (countF m).toNat = M := ⟨_, rfl⟩
  obtain ⟨u, hu⟩ : ∃ u : Vol, { s.vs 7 with bl := m, ks := (s.vs 7).ks.take M } = u := ⟨_, rfl⟩
  obtain ⟨cp, hcp⟩ : ∃ cp : Nat, (match u.ks with | k :: _ => k.ms.length | [] => 0) = cp := ⟨_, rfl⟩
  obtain ⟨s', hs⟩ : ∃ s', fillS (setV s 7 u) 7 cp = s' := ⟨_, rfl⟩
  have hd : doS s (cRs m) = (s', 0) := by
    unfold doS
    rw [if_neg (by simp [cRs]), if_neg (by simp [cRs]), if_neg (by simp [cRs]), if_pos (show (cRs m).k = 4 from rfl), if_neg (by
      have : areB m = true := by unfold areB; exact decide_eq_true hm
      show ¬ areB m = false
      rw [this]; decide), if_neg (by show ¬ isVol s 7 = false; rw [h.vol]; decide)]
    rw [← hs, ← hcp, ← hu, ← hM]
    rfl
  have hg := (doS_good h.d hn (cRs_in hm)).1
  rw [hd] at hg
  obtain ⟨hv, hhv⟩ : ∃ hv, flatK (allKs (setV s 7 u) 64) = hv := ⟨_, rfl⟩
  have hub : u.bl = m ∧ u.ks = (s.vs 7).ks.take M ∧ u.p = (s.vs 7).p ∧ u.ver = (s.vs 7).ver := by rw [← hu]; exact ⟨rfl, rfl, rfl, rfl⟩
  obtain ⟨q, hq⟩ : ∃ q, M - u.ks.length = q := ⟨_, rfl⟩
  have hql : q = M - (s.vs 7).ks.length := by
    rw [← hq, hub.2.1, List.length_take]; omega
  have hvs : s'.vs 7 = { u with ks := u.ks ++ fillK (serversL s.pk) 7 cp s.md hv q } := by
    rw [← hs]
    unfold fillS fillQ
    show (setV (setV s 7 u) 7 _).vs 7 = _
    simp only [setV_same, hhv, hub.1, hM, hq]
    rfl
  have h1 : SevD (n + 1) s' := by
    refine ⟨hg, ?_, ?_, ?_, ?_, ?_⟩
    · rw [← hs]; exact h.pk
    · rw [hvs]; show 1 ≤ u.bl ∧ u.bl ≤ 512; rw [hub.1]; exact hm
    · rw [hvs]; show u.p = pW; rw [hub.2.2.1]; exact h.p
    · rw [hvs]; show u.ver = 1; rw [hub.2.2.2]; exact h.ver
    · intro i hi hne
      rw [← hs]
      unfold fillS
      rw [fillQ_other _ _ _ _ _ hne, setV_other hne]
      exact h.oth i hi hne
  rw [hM, ← hql]
  refine ⟨s', ?_, h1, ⟨fillK (serversL s.pk) 7 cp s.md hv q, ?_⟩, ?_, ?_⟩
  · unfold applyS
    rw [if_pos (by simp [cRs]), hd, if_neg (show ¬ ((0 : Int)) ≠ 0 by decide), if_pos h1.adm]
  · rw [hvs]
    show u.ks ++ _ = _
    rw [hub.2.1]
  · rw [hvs]
    show idsK (u.ks ++ fillK (serversL s.pk) 7 cp s.md hv q) = _
    have : idsK (u.ks ++ fillK (serversL s.pk) 7 cp s.md hv q) = idsK u.ks ++ idsK (fillK (serversL s.pk) 7 cp s.md hv q) := by simp [idsK]
    rw [this, ids_fill, hub.2.1]
    simp [idsK, List.map_take]
  · rw [← hs]
    unfold fillS fillQ
    show s.md + (((countF ((setV s 7 u).vs 7).bl).toNat - ((setV s 7 u).vs 7).ks.length : Nat) : Int) = _
    rw [setV_same, hub.1, hM, hq]
end Go.Proofs.Ytcaaakoahaoooaa
