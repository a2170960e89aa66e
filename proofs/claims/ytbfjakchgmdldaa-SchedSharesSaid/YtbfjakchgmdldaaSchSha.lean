/-
  Two flows that are always up, without reservations and limits: what Pick and Push do with them.
-/
import Derived.Test.YtbfjakchgmdldaaSchAwk
import Derived.Test.YtbfjakchgmdldaaSchFil
import Derived.Test.YtbfjakchgmdldaaSchNum
namespace Go.Proofs.Ytbfjakchgmdldaa
open Go.ChangeShapes Go.WideShapes Go.ChangeAt Go.RowKit
set_option linter.unusedVariables false

/-- a flow of weight u that was picked c times -/
def shFl (u c : Int) (q : List Itm) : Fl := ⟨1, ⟨0, u, 0, 0⟩, ⟨0, c * (67108864 / u), 0⟩, q⟩
theorem growF_in {p s : Int} (hp : 0 ≤ p) (hs : 0 ≤ s) (h : p + s ≤ 2305843009213693952) : growF p s (1 + elseF 0) = p + s := by
  have h1 : holdF s = s := by unfold holdF; omega
  have h2 : holdF (1 + elseF 0) = 1 := by decide
  have h3 : holdF p = p := by unfold holdF; omega
  have h4 : timesF s (1 + elseF 0) = s := by unfold timesF; rw [h1, h2]; omega
  unfold growF addF
  rw [h4, h1, h3]
  omega
theorem growF_zero (n : Int) : growF 0 (spaceF 0) n = 0 := by
  have h1 : spaceF 0 = 0 := by decide
  have h2 : holdF 0 = 0 := by decide
  have h3 : timesF 0 n = 0 := by unfold timesF; rw [h2, Int.zero_mul]; decide
  unfold growF addF
  rw [h1, h3, h2]
  decide
theorem sh_right {u : Int} (h1 : 1 ≤ u) (h8 : u ≤ 8) : rightP ⟨0, u, 0, 0⟩ = true := by
  rw [rightP_iff]
  simp only
  omega
theorem we_bd {u : Int} (h1 : 1 ≤ u) : 0 ≤ 67108864 / u ∧ 67108864 / u ≤ 67108864 := ⟨Int.ediv_nonneg (by omega) (by omega), Int.ediv_le_self _ (by omega)⟩
theorem we_pos {u : Int} (h1 : 1 ≤ u) (h8 : u ≤ 8) : 0 < 67108864 / u := by
  have : 67108864 / 8 ≤ 67108864 / u := Int.le_ediv_of_mul_le (by omega) (by omega)
  omega
theorem sh_bd {u c : Int} (h1 : 1 ≤ u) (hc : 0 ≤ c) (hc2 : c ≤ 200) : 0 ≤ c * (67108864 / u) ∧ c * (67108864 / u) ≤ 13421772800 := by
  obtain ⟨a, b⟩ := we_bd h1
  refine ⟨Int.mul_nonneg hc a, ?_⟩
  have h2 := Int.mul_le_mul hc2 b a (by omega)
  omega
theorem sh_taken {u c : Int} {i : Itm} {r : List Itm} (h1 : 1 ≤ u) (h8 : u ≤ 8) (hc : 0 ≤ c) (hc2 : c ≤ 199) (hi : i.de = 0) : takenFl (shFl u c (i :: r)) 0 2 i r = shFl u (c + 1) r := by
  obtain ⟨a, b⟩ := we_bd h1
  obtain ⟨a2, b2⟩ := sh_bd h1 hc (by omega : c ≤ 200)
  have hg : goesF ⟨0, u, 0, 0⟩ 2 = true := by unfold goesF; rw [sh_right h1 h8]; rfl
  have hch : chargeF ⟨0, u, 0, 0⟩ ⟨0, c * (67108864 / u), 0⟩ 0 2 i.de i.rh = ⟨0, (c + 1) * (67108864 / u), 0⟩ := by
    unfold chargeF
    rw [if_pos hg, hi]
    unfold chargedF
    simp only
    rw [growF_zero, growF_in a2 a (by omega), if_pos trivial, Int.add_mul, Int.one_mul]
  unfold takenFl shFl
  simp only
  rw [hch]
def zeros (q : List Itm) (n : Nat) : Prop := q.length = n ∧ ∀ i ∈ q, i.de = 0
/-- the two flows in memory: picked c and d times, n and m items -/
def ShAt (w : World) (Z s : Nat) (u v c d : Int) (n m : Nat) : Prop := ∃ F q1 q2, SchAt w Z s [0, 1] F ∧ F 0 = shFl u c q1 ∧ F 1 = shFl v d q2 ∧ zeros q1 n ∧ zeros q2 m
theorem atF_zero : atF 0 = 0 := by decide
theorem sh_pick {w : World} {Z s : Nat} {u v c d : Int} (H : ShAt w Z s u v c d 3 3) (hu : 1 ≤ u) (hu8 : u ≤ 8) (hv : 1 ≤ v) (hv8 : v ≤ 8) (hc : 0 ≤ c) (hd : 0 ≤ d) (hcd : c + d ≤ 199) (hB : Z ≤ w.heap.size) :
    Calls Try.prog 13 #[.pointer (some ⟨s, 0, none⟩), .int .i64 0] w (fun e w' => ∃ (k : Int) (i : Itm), e = .returned (.tuple #[.int .i64 k, .agg #[.int .i64 i.na, .int .i64 i.de, .int .i64 i.rh], .int .i64 2, .bool true]) ∧ KeptS Z w w' ∧
      ((k = 0 ∧ c * (67108864 / u) ≤ d * (67108864 / v) ∧ ShAt w' Z s u v (c + 1) d 2 3) ∨ (k = 1 ∧ d * (67108864 / v) < c * (67108864 / u) ∧ ShAt w' Z s u v c (d + 1) 3 2))) := by
  obtain ⟨F, q1, q2, hs, e0, e1, z1, z2⟩ := H
  refine (Pick_any Z s [0, 1] F 0 w hs (by unfold In64; decide) (by decide) hB).mono ?_
  rintro e w' ⟨k, i, ph, ok, F', rfl, h1, h2, -, h4⟩
  rw [atF_zero] at h4
  have up0 : upF (F 0) = true := (upF_iff _).2 fun e => by rw [e0] at e; have := z1.1; rw [show q1 = [] from e] at this; cases this
  have up1 : upF (F 1) = true := (upF_iff _).2 fun e => by rw [e1] at e; have := z2.1; rw [show q2 = [] from e] at this; cases this
  have fr0 : Free [0, 1] F 0 0 := ⟨by decide, up0, by rw [e0]; unfold byLimitF shFl; simp only; rw [sh_right hu hu8]; rfl⟩
  have fr1 : Free [0, 1] F 0 1 := ⟨by decide, up1, by rw [e1]; unfold byLimitF shFl; simp only; rw [sh_right hv hv8]; rfl⟩
  have nd : ∀ j, ¬ Due [0, 1] F 0 j := fun j h => by
    have hr : (F j).p.re = 0 := by
      rcases two_of (P := fun _ => True) h.1 with rfl | rfl
      · rw [e0]; rfl
      · rw [e1]; rfl
    have h3 := h.2.2
    unfold byReserveF at h3
    rw [hr] at h3
    simp at h3
  have k0 : kW F 0 = c * (67108864 / u) := by unfold kW; rw [e0]; rfl
  have k1 : kW F 1 = d * (67108864 / v) := by unfold kW; rw [e1]; rfl
  rcases h4 with ⟨rfl, r, hk, hq, hn, rfl⟩ | ⟨_, _, _, _, _, hn⟩
  · rw [atF_zero] at hn h1
    rcases hn with ⟨_, _, hf⟩ | ⟨_, rfl, _, hf⟩ | ⟨h, _⟩
    · exact absurd hf.1 (nd k)
    · rcases two_of (P := fun _ => True) hk with rfl | rfl
      · have ha := hf.2 1 fr1 (by decide)
        unfold ahead at ha
        simp only [k0, k1] at ha
        rw [e0] at hq h1
        have hq' : q1 = i :: r := hq
        subst hq'
        have hi0 := z1.2 i List.mem_cons_self
        rw [sh_taken hu hu8 hc (by omega) hi0] at h1
        exact ⟨0, i, rfl, h2, .inl ⟨rfl, by omega, _, r, q2, h1, updF_same _ _ _, by rw [updF_other (by decide)]; exact e1, ⟨by have := z1.1; simpa using this, fun j hj => z1.2 j (List.mem_cons_of_mem _ hj)⟩, z2⟩⟩
      · have ha := hf.2 0 fr0 (by decide)
        unfold ahead at ha
        simp only [k0, k1] at ha
        rw [e1] at hq h1
        have hq' : q2 = i :: r := hq
        subst hq'
        have hi0 := z2.2 i List.mem_cons_self
        rw [sh_taken hv hv8 hd (by omega) hi0] at h1
        exact ⟨1, i, rfl, h2, .inr ⟨rfl, by omega, _, q1, r, h1, by rw [updF_other (by decide)]; exact e0, updF_same _ _ _, z1, ⟨by have := z2.1; simpa using this, fun j hj => z2.2 j (List.mem_cons_of_mem _ hj)⟩⟩⟩
    · cases h
  · rcases hn with ⟨h, _⟩ | ⟨h, _⟩ | ⟨_, _, _, h⟩
    · cases h
    · cases h
    · exact absurd fr0 (h 0)
theorem zeros.push {q : List Itm} {n : Nat} (h : zeros q n) : zeros (q ++ [⟨0, 0, 0⟩]) (n + 1) := by
  refine ⟨by rw [List.length_append, h.1]; rfl, fun i hi => ?_⟩
  rcases List.mem_append.1 hi with hi | hi
  · exact h.2 i hi
  · rw [List.mem_singleton.1 hi]
theorem sh_push {w : World} {Z s : Nat} {u v c d : Int} {k : Int} (H : (k = 0 ∧ ShAt w Z s u v c d 2 3) ∨ (k = 1 ∧ ShAt w Z s u v c d 3 2)) (hB : Z ≤ w.heap.size) :
    Calls Try.prog 14 #[.pointer (some ⟨s, 0, none⟩), .int .i64 k, .agg #[.int .i64 0, .int .i64 0, .int .i64 0], .int .i64 0] w (fun e w' => e = .returned (.int .i64 0) ∧ ShAt w' Z s u v c d 3 3 ∧ KeptS Z w w') := by
  rcases H with ⟨rfl, F, q1, q2, hs, e0, e1, z1, z2⟩ | ⟨rfl, F, q1, q2, hs, e0, e1, z1, z2⟩
  · refine (SPush_any Z s [0, 1] F 0 0 ⟨0, 0, 0⟩ w hs (by unfold In64; decide) (by unfold InT In64; decide) (by unfold In64; decide) (by decide) hB).mono ?_
    rintro e w' ⟨F', rfl, h1, h2, h3⟩
    have hl : (F 0).q.length = 2 := by rw [e0]; exact z1.1
    have ep : pushE [0, 1] F 0 = 0 := by unfold pushE; rw [if_pos (by decide), if_neg (by rw [hl]; decide)]
    have up0 : upF (F 0) = true := (upF_iff _).2 fun e => by rw [e] at hl; cases hl
    refine ⟨by rw [ep], ?_, h2⟩
    rcases h3 with ⟨_, _, rfl⟩ | ⟨_, h, _⟩ | ⟨h, _⟩
    · exact ⟨_, _, q2, h1, (updF_same _ _ _).trans (by rw [e0]; rfl), by rw [updF_other (by decide)]; exact e1, z1.push, z2⟩
    · rw [up0] at h; cases h
    · exact absurd ep h
  · refine (SPush_any Z s [0, 1] F 1 0 ⟨0, 0, 0⟩ w hs (by unfold In64; decide) (by unfold InT In64; decide) (by unfold In64; decide) (by decide) hB).mono ?_
    rintro e w' ⟨F', rfl, h1, h2, h3⟩
    have hl : (F 1).q.length = 2 := by rw [e1]; exact z2.1
    have ep : pushE [0, 1] F 1 = 0 := by unfold pushE; rw [if_pos (by decide), if_neg (by rw [hl]; decide)]
    have up0 : upF (F 1) = true := (upF_iff _).2 fun e => by rw [e] at hl; cases hl
    refine ⟨by rw [ep], ?_, h2⟩
    rcases h3 with ⟨_, _, rfl⟩ | ⟨_, h, _⟩ | ⟨h, _⟩
    · exact ⟨_, q1, _, h1, by rw [updF_other (by decide)]; exact e0, (updF_same _ _ _).trans (by rw [e1]; rfl), z1, z2.push⟩
    · rw [up0] at h; cases h
    · exact absurd ep h
end Go.Proofs.Ytbfjakchgmdldaa
