/-
  Contract of dotterelref18's do, whole: it answers doR. Conditions: a state whose rows are its own, whose numbers are within bounds; a command of numbers that an int holds.
-/
import Derived.Test.YtmdmpliiiecmlaaGreatRfDoA
import Derived.Test.YtmdmpliiiecmlaaGreatRfDo8
namespace Go.Proofs.YtmdmpliiiecmlaaGreat
open Go.ChangeShapes Go.WideShapes Go.ChangeAt Go.RowKit
set_option linter.unusedVariables false
set_option linter.unusedSimpArgs false

/-- a state's numbers within bounds -/
structure RsFit (r : RS) : Prop where
  kf : KFit r
  nd : ∀ k ∈ r.cs, (k.ms ++ k.js).Nodup
  kl : r.cs.length ≤ 8000
  nx : 0 ≤ r.nx ∧ r.nx ≤ 1099511627776
  vv : ∀ v ∈ r.vs, 0 ≤ v.ver ∧ v.ver ≤ 35184372088832 ∧ v.ids.length ≤ 64 ∧ v.ids ≠ []
  fc : ∀ v ∈ r.vs, ∀ i ∈ v.ids, ∃ (j : Nat) (k : Chk), chIx r.cs i = some j ∧ r.cs[j]? = some k ∧ k.ms.length ≤ 16
  v63 : ∀ a, 0 ≤ a → a ≤ 63 → volIx r.vs a = none → r.vs.length ≤ 63
theorem RsFit.of {n : Int} {s : St} {r : RS} (h : Rel s r) (hg : GoodD n s) (hn : n ≤ 1000000) : RsFit r := by
  have hk : ∀ k ∈ r.cs, ∃ i : Nat, i < 64 ∧ k ∈ (s.vs i).ks ∧ GoodK s.pk s.md n i k := fun k hk => by
    obtain ⟨i, hi, hm⟩ := (h.cm k).1 hk
    exact ⟨i, hi, hm, (hg.vs i hi).ks k hm⟩
  have hv : ∀ v ∈ r.vs, ∃ i : Nat, i < 64 ∧ (s.vs i).bl ≠ 0 ∧ v = rvOf s i := fun v hv => (h.vm v).1 hv
  have hpre : PreF s := ⟨fun i hi k hk => ((hg.vs i hi).ks k hk).vo, fun i hi k hk => ((hg.vs i hi).ks k hk).id.2, fun i hi k hk => ((hg.vs i hi).ks k hk).nd, fun i hi => hg.ord.rise i hi, fun a b ha hb k hk k' hk' e => hg.ord.one a b ha hb k hk k' hk' e⟩
  have hcf : ∀ i, i < 64 → (s.vs i).ks.length ≤ 64 := fun i hi => by
    have h1 := (hg.vs i hi).kl
    have h2 := (hg.vs i hi).bl
    unfold countF at h1
    omega
  have hperm : (allKs s 64).Perm r.cs := (List.perm_ext_iff_of_nodup hpre.all (List.Pairwise.imp (R := fun a b : Chk => a.id < b.id) (fun {a b} hab e => by subst e; omega) h.cr)).2 fun k => by
    rw [h.cm]
    unfold allKs
    rw [List.mem_flatMap]
    constructor
    · rintro ⟨i, hi, hk⟩; exact ⟨i, List.mem_range.1 hi, hk⟩
    · rintro ⟨i, hi, hk⟩; exact ⟨i, List.mem_range.2 hi, hk⟩
  have hall : ∀ n, n ≤ 64 → (allKs s n).length ≤ n * 64 := fun n => by
    induction n with
    | zero => intro _; simp [allKs]
    | succ n ih =>
      intro hn
      have e : allKs s (n + 1) = allKs s n ++ (s.vs n).ks := by simp [allKs, List.range_succ]
      rw [e, List.length_append]
      have := ih (by omega)
      have := hcf n (by omega)
      omega
  have hnx := h.nx
  have hmd := hg.md
  refine ⟨⟨fun k hk0 => ?_, fun k hk0 => ?_, fun k hk0 => ?_⟩, fun k hk0 => ?_, ?_, by omega, fun v hv0 => ?_, fun v hv0 i hi0 => ?_, fun a a0 a1 hno => ?_⟩
  · obtain ⟨i, hi, hm, g⟩ := hk k hk0
    have := g.ep; omega
  · obtain ⟨i, hi, hm, g⟩ := hk k hk0
    have := g.len; omega
  · obtain ⟨i, hi, hm, g⟩ := hk k hk0
    have := g.len; omega
  · obtain ⟨i, hi, hm, g⟩ := hk k hk0
    exact g.nd
  · rw [← hperm.length_eq]
    have := hall 64 (Nat.le_refl _)
    omega
  · obtain ⟨i, hi, hb, rfl⟩ := hv v hv0
    have g := hg.vs i hi
    have h1 := g.ver hb
    have h2 := g.bl
    have h3 := g.kl
    have h4 := hcf i hi
    have el : (rvOf s i).ids.length = (s.vs i).ks.length := by simp [rvOf, idsK]
    refine ⟨by show 0 ≤ (s.vs i).ver; omega, by show (s.vs i).ver ≤ _; omega, by omega, fun e => ?_⟩
    rw [e] at el
    unfold countF at h3
    simp at el
    omega
  · obtain ⟨j, hj, hb, rfl⟩ := hv v hv0
    obtain ⟨k, hkm, rfl⟩ := List.mem_map.1 (show i ∈ idsK (s.vs j).ks from hi0)
    have hkc := (h.cm k).2 ⟨j, hj, hkm⟩
    obtain ⟨q, hq1, hq2⟩ := findIx_some h.cr hkc rfl
    exact ⟨q, k, hq1, hq2, by have := ((hg.vs j hj).ks k hkm).len; omega⟩
  · have hvs := h.vols
    have hno2 : ∀ x ∈ r.vs, x.id ≠ a := fun x hx e => by
      unfold volIx at hno
      rw [List.findIdx?_eq_none_iff] at hno
      have := hno x hx
      simp [e] at this
    have hz : (s.vs a.toNat).bl = 0 := by
      by_cases hb : (s.vs a.toNat).bl = 0
      · exact hb
      · have hm := (h.vm (rvOf s a.toNat)).2 ⟨a.toNat, by omega, hb, rfl⟩
        exact absurd (show ((a.toNat : Nat) : Int) = a by omega) (hno2 _ hm)
    rw [hvs, List.length_map]
    have hlt : ((List.range 64).filter fun i => decide ((s.vs i).bl ≠ 0)).length < (List.range 64).length := by
      rw [List.length_filter_lt_length_iff_exists]
      exact ⟨a.toNat, List.mem_range.2 (by omega), by simp [hz]⟩
    rw [List.length_range] at hlt
    omega
/-- whatever command comes -/
theorem Rdo_any (f : Rf) (c : Cmd) (B : Nat) (w0 w : World) (ho : RfOwn B w0 w f) (hf : RsFit f.dat) (hc : CmdIn c) (hk1 : 1 ≤ c.k) (hk8 : c.k ≤ 8) :
    Calls Tryz.prog 17 #[f.val, cmdA c] w (DoRetR f (doR f.dat c).1 (doR f.dat c).2 w) := by
  have h := ho.ok
  have hget : ∀ {q : Nat}, volIx f.dat.vs c.a = some q → ∃ v : Vk, f.X[q]? = some v ∧ f.dat.vs[q]? = some v.dat := fun {q} hv => by
    have hv' : f.dat.vs.findIdx? (fun v => decide (v.id = c.a)) = some q := hv
    obtain ⟨hl, _⟩ := List.findIdx?_eq_some_iff_getElem.1 hv'
    have e : f.dat.vs = f.X.map Vk.dat := rfl
    rw [e, List.length_map] at hl
    exact ⟨f.X[q], List.getElem?_eq_getElem hl, by rw [e, List.getElem?_map, List.getElem?_eq_getElem hl]; rfl⟩
  have hdl : f.dat.cs.length = f.K.length := List.length_map ..
  have hvl : f.dat.vs.length = f.X.length := List.length_map ..
  unfold doR
  by_cases e1 : c.k = 1
  · rw [if_pos e1]
    by_cases hr : c.a < 0 ∨ 15 < c.a ∨ c.b < 1 ∨ 64 < c.b
    · rw [if_pos hr]; exact Rdo_1no f c w h hc e1 hr
    · rw [if_neg hr]; exact Rdo_1yes f c c.a.toNat B w0 w ho hc e1 (by omega) (by omega) (by omega)
  rw [if_neg e1]
  by_cases e2 : c.k = 2
  · rw [if_pos e2]
    by_cases hr : c.a < 0 ∨ 63 < c.a ∨ c.b < 1 ∨ 512 < c.b ∨ c.c < 1 ∨ 3 < c.c ∨ rightP c.p = false
    · rw [if_pos hr]
      by_cases hn : c.a < 0 ∨ 63 < c.a ∨ c.b < 1 ∨ 512 < c.b ∨ c.c < 1 ∨ 3 < c.c
      · exact Rdo_2num f c w h hc e2 hn
      · exact Rdo_2pol f c w h hc e2 (by omega) (by omega) (by omega) (by omega) (by omega) (by omega) (by
          rcases hr with h | h | h | h | h | h | h
          · exact absurd (.inl h) hn
          · exact absurd (.inr (.inl h)) hn
          · exact absurd (.inr (.inr (.inl h))) hn
          · exact absurd (.inr (.inr (.inr (.inl h)))) hn
          · exact absurd (.inr (.inr (.inr (.inr (.inl h))))) hn
          · exact absurd (.inr (.inr (.inr (.inr (.inr h))))) hn
          · exact h)
    · rw [if_neg hr]
      have hp : rightP c.p = true := by
        cases hb : rightP c.p with
        | true => rfl
        | false => exact absurd (.inr (.inr (.inr (.inr (.inr (.inr hb)))))) hr
      have n1 : 0 ≤ c.a := by omega
      have n2 : c.a ≤ 63 := by omega
      have n3 : 1 ≤ c.b := by omega
      have n4 : c.b ≤ 512 := by omega
      have n5 : 1 ≤ c.c := by omega
      have n6 : c.c ≤ 3 := by omega
      cases hv : volIx f.dat.vs c.a with
      | some q => exact Rdo_2is f c w h hc e2 n1 n2 n3 n4 n5 n6 hp q hv
      | none =>
        by_cases hs : ((serversL f.dat.pk).length : Int) < c.c
        · simp only [if_pos hs]; exact Rdo_2few f c w h hc e2 n1 n2 n3 n4 n5 n6 hp hv hs
        · simp only [if_neg hs]
          exact Rdo_2yes f c B w0 w ho hc e2 n1 n2 n3 n4 n5 n6 hp hv hs hf.nd (by have := hf.kl; omega) hf.nx (by have := hf.v63 c.a n1 n2 hv; omega)
  rw [if_neg e2]
  by_cases e3 : c.k = 3
  · rw [if_pos e3]
    cases hv : volIx f.dat.vs c.a with
    | none => exact Rdo_3no f c w h hc e3 hv
    | some q =>
      obtain ⟨v, hX, hd⟩ := hget hv
      simp only [hd]
      exact Rdo_3yes f c q v w h hc e3 hv hX
  rw [if_neg e3]
  by_cases e4 : c.k = 4
  · rw [if_pos e4]
    by_cases hr : c.b < 1 ∨ 512 < c.b
    · rw [if_pos hr]; exact Rdo_4no f c w h hc e4 hr
    · rw [if_neg hr]
      cases hv : volIx f.dat.vs c.a with
      | none => exact Rdo_4none f c w h hc e4 (by omega) (by omega) hv
      | some q =>
        obtain ⟨v, hX, hd⟩ := hget hv
        simp only [hd]
        have hvm : v.dat ∈ f.dat.vs := List.mem_of_getElem? hd
        obtain ⟨_, _, hl64, hne⟩ := hf.vv _ hvm
        obtain ⟨i0, il, hids⟩ : ∃ i0 il, v.ids = i0 :: il := by
          cases he : v.ids with
          | nil => exact absurd he hne
          | cons a b => exact ⟨a, b, rfl⟩
        obtain ⟨j, k, hj, hkj, hk16⟩ := hf.fc _ hvm i0 (by show i0 ∈ v.ids; rw [hids]; simp)
        obtain ⟨kk, hkk, hkd⟩ : ∃ kk : Ck, f.K[j]? = some kk ∧ kk.dat = k := by
          have e : f.dat.cs = f.K.map Ck.dat := rfl
          rw [e, List.getElem?_map] at hkj
          cases hkk : f.K[j]? with
          | none => rw [hkk] at hkj; cases hkj
          | some kk => rw [hkk] at hkj; injection hkj with hkj; exact ⟨kk, rfl, hkj⟩
        have hcop : copiesR f.dat v.dat = kk.ms.length := by
          unfold copiesR
          show (match v.ids with | [] => 0 | id :: _ => _) = _
          rw [hids]
          simp only [hj, hkj]
          rw [← hkd]; rfl
        rw [hcop]
        exact Rdo_4yes f c q B j v kk i0 il w0 w ho hc e4 (by omega) (by omega) hv hX hids hj hkk hf.nd (by have := hf.kl; omega) hf.nx hl64 (by rw [← hkd] at hk16; exact hk16)
  rw [if_neg e4]
  by_cases e5 : c.k = 5
  · rw [if_pos e5]
    by_cases hr : rightP c.p = false
    · rw [if_pos hr]; exact Rdo_5no f c w h hc e5 hr
    · rw [if_neg hr]
      have hp : rightP c.p = true := by simpa using hr
      cases hv : volIx f.dat.vs c.a with
      | none => exact Rdo_5none f c w h hc e5 hp hv
      | some q =>
        obtain ⟨v, hX, hd⟩ := hget hv
        simp only [hd]
        obtain ⟨v1, v2, _, _⟩ := hf.vv _ (List.mem_of_getElem? hd)
        exact Rdo_5yes f c q B v w0 w ho hc e5 hp hv hX ⟨v1, v2⟩
  rw [if_neg e5]
  exact Rdo_chunk f c B w0 w ho hf.kf hc (by omega)
end Go.Proofs.YtmdmpliiiecmlaaGreat
