/-
  Three flows without limits, into which bytes' names are pushed by their classes: what Set, Push and Pick do with them. Conditions: a scheduler in memory.
-/
import Derived.Test.YtbfjakchgmdldaaSchAwk
namespace Go.Proofs.Ytbfjakchgmdldaa
open Go.ChangeShapes Go.WideShapes Go.ChangeAt Go.RowKit
set_option linter.unusedVariables false

/-- a byte's class -/
def clsO (bs : List UInt8) (j : Nat) : Nat := ((bs[j]?).getD 0).toNat % 3
theorem clsO_val {bs : List UInt8} {i : Nat} {x : UInt8} (hx : bs[i]? = some x) : (wrap64 (x.toNat : Int)).tmod 3 = ((clsO bs i : Nat) : Int) := by
  have h := x.toNat_lt
  have e : wrap64 (x.toNat : Int) = (x.toNat : Int) := by unfold wrap64; omega
  rw [e]
  unfold clsO
  rw [hx]
  rfl
theorem clsO_lt (bs : List UInt8) (j : Nat) : clsO bs j < 3 := Nat.mod_lt _ (by omega)
def ordP (k : Int) : Pol := ⟨300 * k, 1 + k, 0, 0⟩
theorem ordP_right {k : Int} (h0 : 0 ≤ k) (h3 : k < 3) : rightP (ordP k) = true :=
  (rightP_iff _).2 ⟨⟨by show 0 ≤ 300 * k; omega, by show 300 * k ≤ 1048576; omega⟩, ⟨by show 1 ≤ 1 + k; omega, by show 1 + k ≤ 1024; omega⟩, ⟨Int.le_refl 0, (by decide : (0 : Int) ≤ 1048576)⟩, ⟨Int.le_refl 0, (by decide : (0 : Int) ≤ 1024)⟩, .inl rfl⟩
def ordK : Nat → List Int
  | 0 => []
  | 1 => [0]
  | 2 => [0, 1]
  | _ => [0, 1, 2]
theorem ordK_mem {i : Nat} (hi : i ≤ 3) {k : Int} : k ∈ ordK i ↔ 0 ≤ k ∧ k < i := by
  rcases (show i = 0 ∨ i = 1 ∨ i = 2 ∨ i = 3 by omega) with rfl | rfl | rfl | rfl <;> simp [ordK] <;> omega
def ordG (i : Nat) : Int → Fl := fun k => if 0 ≤ k ∧ k < i then ⟨1, ordP k, ⟨0, 0, 0⟩, []⟩ else newFl
theorem ord_set {w : World} {Z s i : Nat} (hi : i < 3) (H : SchAt w Z s (ordK i) (ordG i)) (hB : Z ≤ w.heap.size) :
    Calls Try.prog 11 #[.pointer (some ⟨s, 0, none⟩), .int .i64 (i : Int), .int .i64 1, .agg #[.int .i64 (300 * (i : Int)), .int .i64 (1 + (i : Int)), .int .i64 0, .int .i64 0]] w (fun e w' => e = .returned (.int .i64 0) ∧ SchAt w' Z s (ordK (i + 1)) (ordG (i + 1)) ∧ KeptS Z w w') := by
  refine (SSet_any Z s (ordK i) (ordG i) i 1 (ordP i) w H (by unfold In64; omega) (by unfold In64; decide) (by unfold InP In64 ordP; simp only; omega) (by rcases (show i = 0 ∨ i = 1 ∨ i = 2 by omega) with rfl | rfl | rfl <;> decide) hB).mono ?_
  rintro e w' ⟨rfl, h1, h2⟩
  have hr := ordP_right (k := (i : Int)) (by omega) (by omega)
  have hn : ¬ (i : Int) ∈ ordK i := fun h => by have := (ordK_mem (by omega)).1 h; omega
  have e0 : setE (ordK i) (ordG i) i 1 (ordP i) = 0 := by
    unfold setE
    rw [if_neg (by rintro (h | h | h) <;> first | omega | (rw [hr] at h; cases h)), if_neg fun h => hn h.1]
  unfold setK setG at h1
  rw [e0, if_pos rfl, if_pos rfl, if_neg hn] at h1
  have ep : putK (ordK i) i = ordK (i + 1) := by rcases (show i = 0 ∨ i = 1 ∨ i = 2 by omega) with rfl | rfl | rfl <;> decide
  rw [ep] at h1
  refine ⟨by rw [e0], h1.congr fun k hk => ?_, h2⟩
  have hk' := (ordK_mem (by omega)).1 hk
  by_cases e : k = i
  · subst e
    rw [updF_same]
    unfold ordG
    rw [if_pos hk']
    rfl
  · rw [updF_other e]
    unfold ordG
    rw [if_pos hk', if_pos (by omega)]

/-- a queue: names below lim, of class k, rising, behind la -/
structure OrdQ (bs : List UInt8) (k lim : Nat) (la : Int) (q : List Itm) : Prop where
  up : q.Pairwise (fun a b => a.na < b.na)
  ins : ∀ it ∈ q, la < it.na ∧ ∃ j : Nat, it.na = j ∧ j < lim ∧ clsO bs j = k
structure OrdF (bs : List UInt8) (lim tot : Nat) (la : Nat → Int) (F : Int → Fl) : Prop where
  pol : ∀ k : Nat, k < 3 → (F k).p = ordP k
  q : ∀ k : Nat, k < 3 → OrdQ bs k lim (la k) (F k).q
  tot : (F 0).q.length + (F 1).q.length + (F 2).q.length = tot
theorem OrdF.start (bs : List UInt8) : OrdF bs 0 0 (fun _ => -1) (ordG 3) := by
  refine ⟨fun k hk => ?_, fun k hk => ?_, rfl⟩
  · unfold ordG; rw [if_pos (by omega)]
  · unfold ordG; rw [if_pos (by omega)]; exact ⟨List.Pairwise.nil, fun it h => by cases h⟩
theorem three_of {k : Nat} (h : k < 3) : k = 0 ∨ k = 1 ∨ k = 2 := by omega
theorem OrdF.len {bs : List UInt8} {lim tot k : Nat} {la : Nat → Int} {F : Int → Fl} (h : OrdF bs lim tot la F) (hk : k < 3) : (F k).q.length ≤ tot := by
  have ht := h.tot
  rcases three_of hk with rfl | rfl | rfl
  · show (F 0).q.length ≤ tot; omega
  · show (F 1).q.length ≤ tot; omega
  · show (F 2).q.length ≤ tot; omega
theorem OrdF.more {bs : List UInt8} {i : Nat} {F : Int → Fl} {f : Fl} (h : OrdF bs i i (fun _ => -1) F) (hp : f.p = (F (clsO bs i : Nat)).p) (hq : f.q = (F (clsO bs i : Nat)).q ++ [⟨i, 0, 0⟩]) : OrdF bs (i + 1) (i + 1) (fun _ => -1) (updF F (clsO bs i : Nat) f) := by
  have hc := clsO_lt bs i
  refine ⟨fun k hk => ?_, fun k hk => ?_, ?_⟩
  · by_cases e : (k : Int) = (clsO bs i : Nat)
    · rw [e, updF_same, hp]; exact h.pol _ hc
    · rw [updF_other e]; exact h.pol k hk
  · by_cases e : (k : Int) = (clsO bs i : Nat)
    · have e' : k = clsO bs i := by omega
      subst e'
      rw [updF_same, hq]
      have hq0 := h.q _ hc
      refine ⟨List.pairwise_append.2 ⟨hq0.up, List.pairwise_singleton _ _, fun a ha b hb => ?_⟩, fun it hit => ?_⟩
      · rw [List.mem_singleton] at hb
        subst hb
        obtain ⟨_, j, hj, hl, _⟩ := hq0.ins a ha
        rw [hj]
        show (j : Int) < (i : Int)
        omega
      · rcases List.mem_append.1 hit with hit | hit
        · obtain ⟨h1, j, hj, hl, hcl⟩ := hq0.ins it hit
          exact ⟨h1, j, hj, by omega, hcl⟩
        · rw [List.mem_singleton] at hit
          subst hit
          exact ⟨by show (-1 : Int) < (i : Int); omega, i, rfl, by omega, rfl⟩
    · rw [updF_other e]
      have hq0 := h.q k hk
      exact ⟨hq0.up, fun it hit => by obtain ⟨h1, j, hj, hl, hcl⟩ := hq0.ins it hit; exact ⟨h1, j, hj, by omega, hcl⟩⟩
  · have ht := h.tot
    rcases three_of hc with e | e | e <;> rw [e] at hq ⊢
    · have hq' : f.q.length = (F 0).q.length + 1 := by rw [hq]; simp
      rw [show updF F ((0 : Nat) : Int) f 0 = f from updF_same F 0 f, updF_other (show (1 : Int) ≠ ((0 : Nat) : Int) by decide), updF_other (show (2 : Int) ≠ ((0 : Nat) : Int) by decide)]
      omega
    · have hq' : f.q.length = (F 1).q.length + 1 := by rw [hq]; simp
      rw [show updF F ((1 : Nat) : Int) f 1 = f from updF_same F 1 f, updF_other (show (0 : Int) ≠ ((1 : Nat) : Int) by decide), updF_other (show (2 : Int) ≠ ((1 : Nat) : Int) by decide)]
      omega
    · have hq' : f.q.length = (F 2).q.length + 1 := by rw [hq]; simp
      rw [show updF F ((2 : Nat) : Int) f 2 = f from updF_same F 2 f, updF_other (show (0 : Int) ≠ ((2 : Nat) : Int) by decide), updF_other (show (1 : Int) ≠ ((2 : Nat) : Int) by decide)]
      omega
/-- one is picked -/
def laSet (la : Nat → Int) (k : Nat) (x : Int) : Nat → Int := fun j => if j = k then x else la j
theorem OrdF.less {bs : List UInt8} {lim t k : Nat} {la : Nat → Int} {F : Int → Fl} {f : Fl} {it : Itm} {r : List Itm} (h : OrdF bs lim (t + 1) la F) (hk : k < 3) (hq : (F k).q = it :: r) (hp : f.p = (F k).p) (hr : f.q = r) :
    OrdF bs lim t (laSet la k it.na) (updF F k f) ∧ la k < it.na ∧ ∃ j : Nat, it.na = j ∧ j < lim ∧ clsO bs j = k := by
  have hq0 := h.q k hk
  rw [hq] at hq0
  obtain ⟨u1, u2⟩ := List.pairwise_cons.1 hq0.up
  obtain ⟨i1, i2⟩ := hq0.ins it List.mem_cons_self
  refine ⟨⟨fun j hj => ?_, fun j hj => ?_, ?_⟩, i1, i2⟩
  · by_cases e : (j : Int) = k
    · rw [e, updF_same, hp]; exact h.pol k hk
    · rw [updF_other e]; exact h.pol j hj
  · by_cases e : (j : Int) = k
    · have e' : j = k := by omega
      subst e'
      rw [updF_same, hr]
      unfold laSet
      rw [if_pos rfl]
      exact ⟨u2, fun x hx => ⟨u1 x hx, (hq0.ins x (List.mem_cons_of_mem _ hx)).2⟩⟩
    · rw [updF_other e]
      unfold laSet
      rw [if_neg (by omega)]
      exact h.q j hj
  · have ht := h.tot
    have hl : ((F k).q).length = f.q.length + 1 := by rw [hq, hr]; rfl
    rcases three_of hk with e | e | e <;> subst e
    · have hl' : (F 0).q.length = f.q.length + 1 := hl
      rw [show updF F ((0 : Nat) : Int) f 0 = f from updF_same F 0 f, updF_other (show (1 : Int) ≠ ((0 : Nat) : Int) by decide), updF_other (show (2 : Int) ≠ ((0 : Nat) : Int) by decide)]
      omega
    · have hl' : (F 1).q.length = f.q.length + 1 := hl
      rw [show updF F ((1 : Nat) : Int) f 1 = f from updF_same F 1 f, updF_other (show (0 : Int) ≠ ((1 : Nat) : Int) by decide), updF_other (show (2 : Int) ≠ ((1 : Nat) : Int) by decide)]
      omega
    · have hl' : (F 2).q.length = f.q.length + 1 := hl
      rw [show updF F ((2 : Nat) : Int) f 2 = f from updF_same F 2 f, updF_other (show (0 : Int) ≠ ((2 : Nat) : Int) by decide), updF_other (show (1 : Int) ≠ ((2 : Nat) : Int) by decide)]
      omega
theorem mem3 {k : Int} : k ∈ [(0 : Int), 1, 2] ↔ ∃ j : Nat, j < 3 ∧ k = j := by
  constructor
  · intro h
    have : 0 ≤ k ∧ k < 3 := by simp at h; omega
    exact ⟨k.toNat, by omega, by omega⟩
  · rintro ⟨j, hj, rfl⟩
    rcases three_of hj with rfl | rfl | rfl <;> decide
theorem ord_free {bs : List UInt8} {lim tot : Nat} {la : Nat → Int} {F : Int → Fl} (h : OrdF bs lim tot la F) (now : Int) {k : Nat} (hk : k < 3) (hq : (F k).q ≠ []) : Free [0, 1, 2] F now k := by
  refine ⟨mem3.2 ⟨k, hk, rfl⟩, (upF_iff _).2 hq, ?_⟩
  rw [h.pol k hk]
  unfold byLimitF
  rw [ordP_right (by omega) (by omega)]
  rfl

/-! ### what Push and Pick do -/
theorem ord_push {w : World} {Z s i : Nat} {F : Int → Fl} {bs : List UInt8} (H : SchAt w Z s [0, 1, 2] F) (hO : OrdF bs i i (fun _ => -1) F) (hi : i < 60) (hB : Z ≤ w.heap.size) :
    Calls Try.prog 14 #[.pointer (some ⟨s, 0, none⟩), .int .i64 (clsO bs i : Nat), .agg #[.int .i64 (i : Int), .int .i64 0, .int .i64 0], .int .i64 (i : Int)] w (fun e w' => e = .returned (.int .i64 0) ∧ ∃ F', SchAt w' Z s [0, 1, 2] F' ∧ OrdF bs (i + 1) (i + 1) (fun _ => -1) F' ∧ KeptS Z w w') := by
  have hc := clsO_lt bs i
  refine (SPush_any Z s [0, 1, 2] F (clsO bs i : Nat) i ⟨i, 0, 0⟩ w H (by unfold In64; omega) (by unfold InT In64; simp only; omega) (by unfold In64; omega) (by decide) hB).mono ?_
  rintro e w' ⟨F', rfl, h1, h2, h3⟩
  have hl := hO.len hc
  have ep : pushE [0, 1, 2] F (clsO bs i : Nat) = 0 := by unfold pushE; rw [if_pos (mem3.2 ⟨_, hc, rfl⟩), if_neg (by omega)]
  refine ⟨by rw [ep], F', h1, ?_, h2⟩
  rcases h3 with ⟨_, _, rfl⟩ | ⟨_, hu, l, _, rfl⟩ | ⟨h, _⟩
  · exact hO.more rfl rfl
  · exact hO.more rfl rfl
  · exact absurd ep h
def OrdPick (bs : List UInt8) (lim t : Nat) (la : Nat → Int) (Z s : Nat) (w : World) (e : Ending) (w' : World) : Prop :=
  ∃ (k j : Nat) (de rh ph : Int) (F' : Int → Fl), k < 3 ∧ j < lim ∧ clsO bs j = k ∧ la k < j ∧ e = .returned (.tuple #[.int .i64 (k : Int), .agg #[.int .i64 (j : Int), .int .i64 de, .int .i64 rh], .int .i64 ph, .bool true]) ∧ SchAt w' Z s [0, 1, 2] F' ∧ OrdF bs lim t (laSet la k j) F' ∧ KeptS Z w w'
theorem ord_pick {w : World} {Z s lim t : Nat} {la : Nat → Int} {F : Int → Fl} {bs : List UInt8} {now : Int} (H : SchAt w Z s [0, 1, 2] F) (hO : OrdF bs lim (t + 1) la F) (hn : In64 now) (hB : Z ≤ w.heap.size) :
    Calls Try.prog 13 #[.pointer (some ⟨s, 0, none⟩), .int .i64 now] w (OrdPick bs lim t la Z s w) := by
  refine (Pick_any Z s [0, 1, 2] F now w H hn (by decide) hB).mono ?_
  rintro e w' ⟨k, it, ph, ok, F', rfl, h1, h2, -, h4⟩
  rcases h4 with ⟨rfl, r, hk, hq, hN, rfl⟩ | ⟨_, _, _, _, _, hN⟩
  · obtain ⟨j, hj, rfl⟩ := mem3.1 hk
    obtain ⟨hO', hla, x, hx, hxl, hxc⟩ := hO.less hj hq (f := takenFl (F j) (atF now) ph it r) rfl rfl
    unfold OrdPick
    rw [hx] at hO' hla
    exact ⟨j, x, it.de, it.rh, ph, _, hj, hxl, hxc, hla, by rw [hx], h1, hO', h2⟩
  · exfalso
    have hf : ∀ j, ¬ Free [0, 1, 2] F (atF now) j := by
      rcases hN with ⟨h, _⟩ | ⟨h, _⟩ | ⟨_, _, _, h⟩
      · cases h
      · cases h
      · exact h
    have hz : ∀ k : Nat, k < 3 → (F k).q = [] := fun k hk => by
      by_cases h : (F k).q = []
      · exact h
      · exact absurd (ord_free hO (atF now) hk h) (hf k)
    have ht := hO.tot
    have h0 : (F 0).q = [] := hz 0 (by omega)
    have h1' : (F 1).q = [] := hz 1 (by omega)
    have h2' : (F 2).q = [] := hz 2 (by omega)
    rw [h0, h1', h2'] at ht
    simp at ht
theorem ord_done {w : World} {Z s lim : Nat} {la : Nat → Int} {F : Int → Fl} {bs : List UInt8} {now : Int} (H : SchAt w Z s [0, 1, 2] F) (hO : OrdF bs lim 0 la F) (hn : In64 now) (hB : Z ≤ w.heap.size) :
    Calls Try.prog 13 #[.pointer (some ⟨s, 0, none⟩), .int .i64 now] w (fun e w' => e = .returned (.tuple #[.int .i64 0, .agg #[.int .i64 0, .int .i64 0, .int .i64 0], .int .i64 0, .bool false]) ∧ KeptS Z w w') := by
  refine (Pick_any Z s [0, 1, 2] F now w H hn (by decide) hB).mono ?_
  rintro e w' ⟨k, it, ph, ok, F', rfl, h1, h2, -, h4⟩
  rcases h4 with ⟨rfl, r, hk, hq, hN, rfl⟩ | ⟨rfl, rfl, rfl, rfl, _, _⟩
  · exfalso
    obtain ⟨j, hj, rfl⟩ := mem3.1 hk
    have := hO.len hj
    rw [hq] at this
    simp at this
  · exact ⟨rfl, h2⟩
end Go.Proofs.Ytbfjakchgmdldaa
