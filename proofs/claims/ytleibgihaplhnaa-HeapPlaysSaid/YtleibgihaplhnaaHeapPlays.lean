/-
  HeapPlays: whatever is set and dropped (up to 100 acts), each answer, and all names, are the document's; it holds for every input, and the argument stays as it was. No condition.
-/
import Derived.Test.YtleibgihaplhnaaHeapPlay
import Derived.Test.YtleibgihaplhnaaRows
import Derived.Test.YtleibgihaplhnaaChecked
import Derived.Deep.CutBlock
import Derived.Deep.DeepCutAuto
import Derived.Deep.RegionHeld3
namespace Go.Proofs.Ytleibgihaplhnaa.HeapPlays
open Go.ChangeShapes Go.WideShapes Go.ChangeAt Go.RowKit Go.Maps Go.Sort
set_option linter.unusedVariables false

theorem Plays2.start (w : World) : Plays2 w (w.alloc (.cells #[.slice none 0 0, .map none] 27)) [] [] none :=
  ⟨⟨none, none, new_heap w⟩, .inl rfl, fun g o e => (by cases e), (Below.refl _ _).alloc (Nat.le_refl _) _⟩

/-- behind an act: the heap and the list are one again -/
def Behind (w wr : World) (d nm ky : Int) (i : Nat) (x4 : Value) (wx : World) : Prop :=
  ∃ (x2 : List Ent) (A2 : Option Addr) (m2 cp2 : Nat), x4 = .slice A2 m2 cp2 ∧ x2.length = m2 ∧ m2 ≤ i + 1 ∧ (0 < m2 → m2 ≤ cp2) ∧ cp2 ≤ maxLen ∧ Plays2 w wx x2 x2 A2 ∧ wx.heap[wr.heap.size]? = some (.cells #[.int .i64 d, .int .i64 nm, .int .i64 ky] 30 (0, 0))
theorem Plays2.nil {w w' : World} {xh xl : List Ent} {A : Option Addr} (P : Plays2 w w' xh xl A) : Plays2 w w' xh [] A := ⟨P.heap, .inl rfl, P.kind, P.b⟩
theorem Plays2.tail {w w' : World} {xh s : List Ent} {a : Ent} {g o : Nat} (P : Plays2 w w' xh (a :: s) (some ⟨g, o, none⟩)) : Plays2 w w' xh s (some ⟨g, o + 2, none⟩) := by
  refine ⟨P.heap, ?_, fun g' o' e => ?_, P.b⟩
  · rcases P.seen with h | ⟨g', o', hA, hc⟩
    · have := congrArg List.length h
      rw [entsV_length] at this
      simp at this
    · injection hA with hA
      injection hA with hg ho
      subst hg; subst ho
      refine .inr ⟨g, o + 2, rfl, fun j v hv => ?_⟩
      have h2 := hc (j + 2) v (by show (Value.int .i64 a.1 :: Value.int .i64 a.2 :: entsV s)[j + 2]? = some v; simpa using hv)
      rwa [show o + (j + 2) = o + 2 + j by omega] at h2
  · injection e with e
    injection e with hg ho
    subst hg
    exact P.kind g o rfl
theorem out_first {a : Ent} {s : List Ent} (h : GoodE (a :: s)) : outE (a :: s) a.1 = s := by
  unfold outE
  rw [List.filter_cons_of_neg (by simp)]
  exact List.filter_eq_self.2 fun r hr => by simpa using fun e : r.1 = a.1 => (List.pairwise_cons.1 h.names).1 r hr e.symm

set_option maxRecDepth 100000 in
set_option maxHeartbeats 8000000 in
theorem walkIn (A : Option Addr) (n c : Nat) (l : List Act6) (w : World) (hn : l.length = n) (hs : Acts6At w A l) (h100 : n ≤ 100) :
    Calls Try.prog 3 #[.slice A n c] w fun e w' => e = .returned (.bool true) ∧ Below w.heap.size w w' := by
  have Hn := Lib.hid hn; have Hs := Lib.hid hs
  clear hn hs
  have h1 : ¬ (n : Int) > 100 := by omega
  obtain ⟨W1, hW1⟩ : ∃ W1, w.alloc (.cells #[.slice none 0 0, .map none] 27) = W1 := ⟨_, rfl⟩
  have P1 := Lib.hid (show Plays2 w W1 [] [] none by rw [← hW1]; exact Plays2.start w)
  go_enter Try.func3, Try.ntmps3
  go_wp2
  clear hW1
  go_loopw [4, 5] (fun sv iv wr => ∃ (i m cp : Nat) (x : List Ent) (A' : Option Addr), iv = .int .i64 (i : Int) ∧ i ≤ n ∧ sv = .slice A' m cp ∧ x.length = m ∧ m ≤ i ∧ (0 < m → m ≤ cp) ∧ cp ≤ maxLen ∧ Plays2 w wr x x A') (fun _ iv _ => n - (intOf iv).toNat)
  case atStart => exact ⟨0, 0, 0, [], none, rfl, by omega, rfl, rfl, by omega, fun h => by omega, Nat.zero_le _, P1.out⟩
  case round =>
    obtain ⟨i, m, cp, x, A', rfl, hin, rfl, hxm, hmi, hmc, hcm, hp⟩ := hrel
    by_cases hi : i < n
    · obtain ⟨g, o, a, rfl, ha, q0, q1, q2, hna, hka⟩ := Hs.out.get (k := i) (by have := Hn.out; omega)
      obtain ⟨d, nm, ky⟩ := a
      have a0 := (hp.b.cell (block_lt_of_cell q0)).trans q0
      have a1 := (hp.b.cell (block_lt_of_cell q1)).trans q1
      have a2 := (hp.b.cell (block_lt_of_cell q2)).trans q2
      simp only at a0 a1 a2 hna hka
      obtain ⟨W2, hW2, hb2⟩ : ∃ W2, wr.alloc (.cells #[.int .i64 d, .int .i64 nm, .int .i64 ky] 30) = W2 ∧ Below wr.heap.size wr W2 := ⟨_, rfl, (Below.refl _ _).alloc (Nat.le_refl _) _⟩
      have hh2 : W2.heap[wr.heap.size]? = some (.cells #[.int .i64 d, .int .i64 nm, .int .i64 ky] 30 (0, 0)) := by rw [← hW2]; exact heap_alloc_new _ _
      have b0 : W2.cell? ⟨wr.heap.size, 0, none⟩ = some (.int .i64 d) := row_cell hh2 0
      have b1 : W2.cell? ⟨wr.heap.size, 1, none⟩ = some (.int .i64 nm) := row_cell hh2 1
      have b2 : W2.cell? ⟨wr.heap.size, 2, none⟩ = some (.int .i64 ky) := row_cell hh2 2
      have P2 := Lib.hid (hp.below hb2); have Hh2 := Lib.hid hh2; have Hna := Lib.hid hna; have Hka := Lib.hid hka; have Hxm := Lib.hid hxm; have Hmc := Lib.hid hmc; have Hcm := Lib.hid hcm
      have i0 : (0 : Int) ≤ (i : Int) := by omega
      have i1 : (i : Int) < (n : Int) := by omega
      clear hp hb2 hh2 hna hka ha q0 q1 q2 hxm hmc hcm
      go_upto_block 2 with (fail)
      have hxl : x.length ≤ 50000 := by have := Hxm.out; omega
      have Hxl := Lib.hid hxl
      clear hxl
      go_cut [4] (fun x4 wx => Behind w wr d nm ky i x4 wx)
      case first =>
        by_cases hd0 : d = 0
        · subst hd0
          go_wp2_with (first
            | (go_at_call 7; refine (PSet P2.out nm ky Hxl.out ⟨Hna.out, Hka.out⟩).mono ?_; rintro e w3 ⟨rfl, p3, k3⟩; have P3 := Lib.hid p3; have hh3 := k3 _ _ _ _ Hh2.out (by decide) (by decide); have c1 : w3.cell? ⟨wr.heap.size, 1, none⟩ = some (.int .i64 nm) := row_cell hh3 1; have c2 : w3.cell? ⟨wr.heap.size, 2, none⟩ = some (.int .i64 ky) := row_cell hh3 2; have Hh3 := Lib.hid hh3; clear p3 k3 hh3)
            | (go_at_call 8; refine (PPut P3.out m cp (nm, ky) Hxm.out (by omega)).mono ?_; rintro e w4 ⟨A4, m4, cp4, rfl, l4, e4, d4, p4, b4⟩; have L4 := Lib.hid l4; have E4 := Lib.hid e4; have D4 := Lib.hid d4; have P4 := Lib.hid p4; have c14 := Lib.hid ((b4.block wr.heap.size (Array.getElem?_eq_some_iff.1 Hh3.out).1).trans Hh3.out); clear l4 e4 d4 p4 b4 c1 c2))
          go_meet
          exact ⟨_, A4, m4, cp4, rfl, L4.out, by have h1 := L4.out; have h2 := putE_length x (nm, ky); have h3 := Hxm.out; omega, E4.out, D4.out, P4.out, c14.out⟩
        · by_cases hd1 : d = 1
          · subst hd1
            by_cases hmem : ∃ r ∈ x, r.1 = nm
            · have Hmem := Lib.hid hmem
              clear hmem hd0
              go_wp2
              go_region_held3 (fun w' => w'.cell? ⟨wr.heap.size, 1, none⟩ = some (.int .i64 nm))
                (first | exact b1 | exact c1)
                (first
                  | (go_at_call 9; refine (PDrop (P2.out.below (Below.refl _ _).drew) nm Hxl.out Hna.out true ⟨fun _ => Hmem.out, fun _ => rfl⟩).mono ?_; rintro e w3 ⟨rfl, p3, k3⟩; have P3 := Lib.hid p3; have hh3 := k3 _ _ _ _ (show W2.drew.heap[wr.heap.size]? = _ from Hh2.out) (by decide) (by decide); have c1 : w3.cell? ⟨wr.heap.size, 1, none⟩ = some (.int .i64 nm) := row_cell hh3 1; have Hh3 := Lib.hid hh3; clear p3 k3 hh3)
                  | (go_at_call 10; refine (PAt_yes P3.out m cp nm Hxm.out (by omega) Hmem.out).mono ?_; rintro e w4 ⟨⟨ix, kx, rfl, hx⟩, rfl⟩; have hx0 : (0 : Int) ≤ (ix : Int) := Int.natCast_nonneg ix; clear hx))
              all_goals
                go_wp2_with (go_at_call 11; refine (POut P3.out m cp nm Hxm.out (by omega)).mono ?_; rintro e w4 ⟨A4, m4, cp4, rfl, l4, e4, d4, p4, b4⟩; have L4 := Lib.hid l4; have E4 := Lib.hid e4; have D4 := Lib.hid d4; have P4 := Lib.hid p4; have c14 := Lib.hid ((b4.block wr.heap.size (Array.getElem?_eq_some_iff.1 Hh3.out).1).trans Hh3.out); clear l4 e4 d4 p4 b4 c1)
                go_meet
                exact ⟨_, A4, m4, cp4, rfl, L4.out, by have h1 := L4.out; have h2 := outE_length x nm; have h3 := Hxm.out; omega, E4.out, D4.out, P4.out, c14.out⟩
            · have Hmem := Lib.hid (fun r hr e => hmem ⟨r, hr, e⟩ : ∀ r ∈ x, r.1 ≠ nm)
              clear hmem hd0
              go_wp2
              go_region_held3 (fun w' => w'.cell? ⟨wr.heap.size, 1, none⟩ = some (.int .i64 nm))
                (first | exact b1 | exact c1)
                (first
                  | (go_at_call 9; refine (PDrop (P2.out.below (Below.refl _ _).drew) nm Hxl.out Hna.out false ⟨fun e => (by cases e), fun ⟨r, hr, e⟩ => absurd e (Hmem.out r hr)⟩).mono ?_; rintro e w3 ⟨rfl, p3, k3⟩; have P3 := Lib.hid p3; have hh3 := k3 _ _ _ _ (show W2.drew.heap[wr.heap.size]? = _ from Hh2.out) (by decide) (by decide); have c1 : w3.cell? ⟨wr.heap.size, 1, none⟩ = some (.int .i64 nm) := row_cell hh3 1; have Hh3 := Lib.hid hh3; clear p3 k3 hh3)
                  | (go_at_call 10; refine (PAt_no P3.out m cp nm Hxm.out (by omega) Hmem.out).mono ?_; rintro e w4 ⟨rfl, rfl⟩))
              all_goals
                go_wp2_with (go_at_call 11; refine (POut P3.out m cp nm Hxm.out (by omega)).mono ?_; rintro e w4 ⟨A4, m4, cp4, rfl, l4, e4, d4, p4, b4⟩; have L4 := Lib.hid l4; have E4 := Lib.hid e4; have D4 := Lib.hid d4; have P4 := Lib.hid p4; have c14 := Lib.hid ((b4.block wr.heap.size (Array.getElem?_eq_some_iff.1 Hh3.out).1).trans Hh3.out); clear l4 e4 d4 p4 b4 c1)
                go_meet
                exact ⟨_, A4, m4, cp4, rfl, L4.out, by have h1 := L4.out; have h2 := outE_length x nm; have h3 := Hxm.out; omega, E4.out, D4.out, P4.out, c14.out⟩
          · by_cases hd2 : d = 2
            · subst hd2
              clear hd0 hd1
              cases x with
              | nil =>
                go_wp2_with (go_at_call 12; refine (PLeast_nil P2.out).mono ?_; rintro e w3 ⟨rfl, p3, k3⟩; have P3 := Lib.hid p3; have hh3 := k3 _ _ _ _ Hh2.out (by decide) (by decide); have c1 : w3.cell? ⟨wr.heap.size, 1, none⟩ = some (.int .i64 nm) := row_cell hh3 1; have c2 : w3.cell? ⟨wr.heap.size, 2, none⟩ = some (.int .i64 ky) := row_cell hh3 2; have Hh3 := Lib.hid hh3; clear p3 k3 hh3)
                go_meet
                exact ⟨[], A', m, cp, rfl, Hxm.out, by omega, Hmc.out, Hcm.out, P3.out, Hh3.out⟩
              | cons a s =>
                obtain ⟨g2, o2, rfl, -, -⟩ := P2.out.seen.ent (i := 0) (r := a) rfl
                obtain ⟨q0, m0, hh0⟩ := P2.out.heap
                have hfa : In64 a.1 := (hh0.fits a (by simp)).1
                have hout := out_first hh0.good
                have Hfa := Lib.hid hfa; have Hout := Lib.hid hout
                have hm1 : s.length + 1 = m := by have := Hxm.out; simpa using this
                have Hm1 := Lib.hid hm1
                have m1 : (1 : Int) ≤ (m : Int) := by omega
                have m2 : (m : Int) ≤ (cp : Int) := by have := Hmc.out (by omega); omega
                clear hfa hout hh0 hm1
                by_cases hcp : cp = 1
                · subst hcp
                  have hs0 : s = [] := List.length_eq_zero_iff.1 (by have := Hm1.out; omega)
                  obtain rfl : m = 1 := by have := Hm1.out; omega
                  clear m2
                  go_wp2_with (first
                    | (go_at_call 12; refine (PLeast_cons P2.out Hxl.out).mono ?_; rintro e w3 ⟨rfl, p3, k3⟩; have P3 := Lib.hid p3; have hh3 := k3 _ _ _ _ Hh2.out (by decide) (by decide); have c1 : w3.cell? ⟨wr.heap.size, 1, none⟩ = some (.int .i64 nm) := row_cell hh3 1; have Hh3 := Lib.hid hh3; clear p3 k3 hh3)
                    | (go_at_call 9; refine (PDrop P3.out a.1 Hxl.out Hfa.out true ⟨fun _ => ⟨a, by simp, rfl⟩, fun _ => rfl⟩).mono ?_; rintro e w4 ⟨rfl, p4, k4⟩; rw [Hout.out] at p4; have P4 := Lib.hid p4; have hh4 := k4 _ _ _ _ Hh3.out (by decide) (by decide); have c14 := Lib.hid hh4; clear p4 k4 hh4 c1))
                  go_meet
                  subst hs0
                  exact ⟨[], some ⟨g2, o2, none⟩, 0, 0, rfl, rfl, by omega, fun h => (by omega), Nat.zero_le _, Plays2.nil P4.out, c14.out⟩
                · have hcq : ¬ (cp : Int) = 1 := by omega
                  go_wp2_with (first
                    | (go_at_call 12; refine (PLeast_cons P2.out Hxl.out).mono ?_; rintro e w3 ⟨rfl, p3, k3⟩; have P3 := Lib.hid p3; have hh3 := k3 _ _ _ _ Hh2.out (by decide) (by decide); have c1 : w3.cell? ⟨wr.heap.size, 1, none⟩ = some (.int .i64 nm) := row_cell hh3 1; have Hh3 := Lib.hid hh3; clear p3 k3 hh3)
                    | (go_at_call 9; refine (PDrop P3.out a.1 Hxl.out Hfa.out true ⟨fun _ => ⟨a, by simp, rfl⟩, fun _ => rfl⟩).mono ?_; rintro e w4 ⟨rfl, p4, k4⟩; rw [Hout.out] at p4; have P4 := Lib.hid p4; have hh4 := k4 _ _ _ _ Hh3.out (by decide) (by decide); have c14 := Lib.hid hh4; clear p4 k4 hh4 c1))
                  go_meet
                  exact ⟨s, some ⟨g2, o2 + 2, none⟩, m - 1, cp - 1, rfl, by have := Hm1.out; omega, by omega, fun h => (by have := Hmc.out (by omega); omega), by have := Hcm.out; omega, Plays2.tail P4.out, c14.out⟩
            · have hq0 : (d == 0) = false := by simpa using hd0
              have hq1 : (d == 1) = false := by simpa using hd1
              have hq2 : (d == 2) = false := by simpa using hd2
              clear hd0 hd1 hd2
              go_wp2
              go_meet
              exact ⟨x, A', m, cp, rfl, Hxm.out, by omega, Hmc.out, Hcm.out, P2.out, Hh2.out⟩
      case rest =>
        obtain ⟨x2, A2, m2, cp2, rfl, hx2, hm2, hmc2, hcm2, p2, hhc⟩ := hcut
        have Hx2 := Lib.hid hx2; have Hc2 := Lib.hid (And.intro hmc2 hcm2); have Pc := Lib.hid p2; have Hhc := Lib.hid hhc
        clear hx2 hmc2 hcm2 p2 hhc a0 a1 a2 b0 b1 b2
        cases x2 with
        | nil =>
          obtain rfl : m2 = 0 := by have := Hx2.out; simpa using this.symm
          have Hmem : Hid (∀ r ∈ ([] : List Ent), r.1 ≠ nm) := Lib.hid (fun r hr => (by simp at hr))
          go_wp2_with (first
            | (go_at_call 12; refine (PLeast_nil Pc.out).mono ?_; rintro e w3 ⟨rfl, p3, k3⟩; have P3 := Lib.hid p3; have hh3 := k3 _ _ _ _ Hhc.out (by decide) (by decide); have c1 : w3.cell? ⟨wr.heap.size, 1, none⟩ = some (.int .i64 nm) := row_cell hh3 1; clear p3 k3 hh3)
            | (go_at_call 13; refine (PKey_no P3.out nm (by simp) Hna.out Hmem.out).mono ?_; rintro e w4 ⟨rfl, rfl⟩)
            | (go_at_call 10; refine (PAt_no P3.out 0 cp2 nm Hx2.out (by omega) Hmem.out).mono ?_; rintro e w4 ⟨rfl, rfl⟩)
            | (go_at_call 14; refine (PLen P3.out).mono ?_; rintro e w4 ⟨rfl, rfl⟩; rw [Hx2.out])
            | (go_at_call 16; refine (PAll P3.out (by have := Hx2.out; omega)).mono ?_; rintro e w5 ⟨A5, c5, rfl, s5, p5, b5⟩; rw [Hx2.out]; have S5 := Lib.hid s5; have P5 := Lib.hid p5; clear s5 p5 b5)
            | (go_at_call 17; refine (PNames P5.out 0 cp2 Hx2.out (by omega)).mono ?_; rintro e w6 ⟨A6, c6, rfl, s6, p6, b6⟩; rw [Hx2.out]; have S6 := Lib.hid s6; have S5b := Lib.hid (S5.out.below b6); have P6 := Lib.hid p6; clear s6 p6 b6)
            | (go_at_call 15; refine (SameInts_any A5 A6 0 0 c5 c6 (namesE []) (namesE []) w6 ((namesE_length _).trans Hx2.out) ((namesE_length _).trans Hx2.out) S5b.out S6.out (by unfold maxLen; omega)).mono ?_; rintro e w7 ⟨rfl, b7⟩; rw [decide_eq_true rfl]; have P7 := Lib.hid (P6.out.below b7); clear b7))
          go_roundw
          case rel => exact ⟨i + 1, 0, cp2, _, _, by go_num, by omega, rfl, Hx2.out, by omega, Hc2.out.1, Hc2.out.2, P7.out⟩
          case measure => simp [intOf]; omega
        | cons a s =>
          obtain ⟨g2, o2, rfl, -, -⟩ := Pc.out.seen.ent (i := 0) (r := a) rfl
          have hm1 : s.length + 1 = m2 := by have := Hx2.out; simpa using this
          have m1 : (0 : Int) < (m2 : Int) := by omega
          have hl2 : (a :: s).length ≤ 50000 := by have := Hx2.out; omega
          have Hl2 := Lib.hid hl2
          clear hm1 hl2
          by_cases hmem : ∃ v, (nm, v) ∈ a :: s
          · obtain ⟨v, hv⟩ := hmem
            have Hmem := Lib.hid hv
            clear hv
            go_wp2_with (first
              | (go_at_call 12; refine (PLeast_cons Pc.out Hl2.out).mono ?_; rintro e w3 ⟨rfl, p3, k3⟩; have P3 := Lib.hid p3; have hh3 := k3 _ _ _ _ Hhc.out (by decide) (by decide); have c1 : w3.cell? ⟨wr.heap.size, 1, none⟩ = some (.int .i64 nm) := row_cell hh3 1; obtain ⟨g3, o3, hg3, d0, d1⟩ := p3.seen.ent (i := 0) (r := a) rfl; injection hg3 with hg3; injection hg3 with hg3 ho3; subst hg3; subst ho3; have d0' : w3.cell? ⟨g2, o2, none⟩ = some (.int .i64 a.1) := d0; have d1' : w3.cell? ⟨g2, o2 + 1, none⟩ = some (.int .i64 a.2) := d1; clear d0 d1; clear p3 k3 hh3)
              | (go_at_call 13; refine (PKey_yes P3.out nm v Hl2.out Hna.out Hmem.out).mono ?_; rintro e w4 ⟨rfl, rfl⟩)
              | (go_at_call 10; refine (PAt_yes P3.out m2 cp2 nm Hx2.out (by omega) ⟨_, Hmem.out, rfl⟩).mono ?_; rintro e w4 ⟨⟨ix, kx, rfl, hx⟩, rfl⟩; obtain ⟨qk, mk, hk⟩ := P3.out.heap; have hkv := hk.good.one (List.mem_of_getElem? hx) Hmem.out rfl; injection hkv with hkv1 hkv; subst hkv; obtain ⟨gk, ok, hgk, e0, e1⟩ := P3.out.seen.ent hx; injection hgk with hgk; injection hgk with hgk hok; subst hgk; subst hok; have hx0 : (0 : Int) ≤ (ix : Int) := Int.natCast_nonneg ix; have hx1 : (ix : Int) < (m2 : Int) := (by have h1 := (List.getElem?_eq_some_iff.1 hx).1; have h2 := Hx2.out; omega); clear hx hk hkv1)
              | (go_at_call 14; refine (PLen P3.out).mono ?_; rintro e w4 ⟨rfl, rfl⟩; rw [Hx2.out])
              | (go_at_call 16; refine (PAll P3.out (by have := Hx2.out; omega)).mono ?_; rintro e w5 ⟨A5, c5, rfl, s5, p5, b5⟩; rw [Hx2.out]; have S5 := Lib.hid s5; have P5 := Lib.hid p5; clear s5 p5 b5)
              | (go_at_call 17; refine (PNames P5.out m2 cp2 Hx2.out (by omega)).mono ?_; rintro e w6 ⟨A6, c6, rfl, s6, p6, b6⟩; rw [Hx2.out]; have S6 := Lib.hid s6; have S5b := Lib.hid (S5.out.below b6); have P6 := Lib.hid p6; clear s6 p6 b6)
              | (go_at_call 15; refine (SameInts_any A5 A6 m2 m2 c5 c6 (namesE (a :: s)) (namesE (a :: s)) w6 ((namesE_length _).trans Hx2.out) ((namesE_length _).trans Hx2.out) S5b.out S6.out (by unfold maxLen; omega)).mono ?_; rintro e w7 ⟨rfl, b7⟩; rw [decide_eq_true rfl]; have P7 := Lib.hid (P6.out.below b7); clear b7))
            go_roundw
            case rel => exact ⟨i + 1, m2, cp2, _, _, by go_num, by omega, rfl, Hx2.out, by omega, Hc2.out.1, Hc2.out.2, P7.out⟩
            case measure => simp [intOf]; omega
          · have Hmem := Lib.hid (fun r hr e => hmem ⟨r.2, by rw [← e]; exact hr⟩ : ∀ r ∈ a :: s, r.1 ≠ nm)
            clear hmem
            go_wp2_with (first
              | (go_at_call 12; refine (PLeast_cons Pc.out Hl2.out).mono ?_; rintro e w3 ⟨rfl, p3, k3⟩; have P3 := Lib.hid p3; have hh3 := k3 _ _ _ _ Hhc.out (by decide) (by decide); have c1 : w3.cell? ⟨wr.heap.size, 1, none⟩ = some (.int .i64 nm) := row_cell hh3 1; obtain ⟨g3, o3, hg3, d0, d1⟩ := p3.seen.ent (i := 0) (r := a) rfl; injection hg3 with hg3; injection hg3 with hg3 ho3; subst hg3; subst ho3; have d0' : w3.cell? ⟨g2, o2, none⟩ = some (.int .i64 a.1) := d0; have d1' : w3.cell? ⟨g2, o2 + 1, none⟩ = some (.int .i64 a.2) := d1; clear d0 d1; clear p3 k3 hh3)
              | (go_at_call 13; refine (PKey_no P3.out nm Hl2.out Hna.out Hmem.out).mono ?_; rintro e w4 ⟨rfl, rfl⟩)
              | (go_at_call 10; refine (PAt_no P3.out m2 cp2 nm Hx2.out (by omega) Hmem.out).mono ?_; rintro e w4 ⟨rfl, rfl⟩)
              | (go_at_call 14; refine (PLen P3.out).mono ?_; rintro e w4 ⟨rfl, rfl⟩; rw [Hx2.out])
              | (go_at_call 16; refine (PAll P3.out (by have := Hx2.out; omega)).mono ?_; rintro e w5 ⟨A5, c5, rfl, s5, p5, b5⟩; rw [Hx2.out]; have S5 := Lib.hid s5; have P5 := Lib.hid p5; clear s5 p5 b5)
              | (go_at_call 17; refine (PNames P5.out m2 cp2 Hx2.out (by omega)).mono ?_; rintro e w6 ⟨A6, c6, rfl, s6, p6, b6⟩; rw [Hx2.out]; have S6 := Lib.hid s6; have S5b := Lib.hid (S5.out.below b6); have P6 := Lib.hid p6; clear s6 p6 b6)
              | (go_at_call 15; refine (SameInts_any A5 A6 m2 m2 c5 c6 (namesE (a :: s)) (namesE (a :: s)) w6 ((namesE_length _).trans Hx2.out) ((namesE_length _).trans Hx2.out) S5b.out S6.out (by unfold maxLen; omega)).mono ?_; rintro e w7 ⟨rfl, b7⟩; rw [decide_eq_true rfl]; have P7 := Lib.hid (P6.out.below b7); clear b7))
            go_roundw
            case rel => exact ⟨i + 1, m2, cp2, _, _, by go_num, by omega, rfl, Hx2.out, by omega, Hc2.out.1, Hc2.out.2, P7.out⟩
            case measure => simp [intOf]; omega
    · obtain rfl : i = n := by omega
      have i1 : ¬ (i : Int) < (i : Int) := by omega
      have Hp := Lib.hid hp
      clear hp
      go_wp2_with (go_at_call 6; refine (awake_any wr).mono ?_; rintro e w3 ⟨rfl, hb3⟩; have Hb3 := Lib.hid (Hp.out.b.trans (hb3.mono Hp.out.b.size)); clear hb3)
      go_ret
      exact ⟨rfl, Hb3.out⟩

theorem walk (A : Option Addr) (n c : Nat) (l : List Act6) (w : World) (hn : l.length = n) (hnc : n ≤ c) (hcm : c ≤ maxLen) (hs : Acts6At w A l) :
    Calls Try.prog 3 #[.slice A n c] w fun e w' => e = .returned (.bool true) ∧ Below w.heap.size w w' := by
  by_cases h1 : n ≤ 100
  · exact walkIn A n c l w hn hs h1
  · have h2 : (n : Int) > 100 := by omega
    go_enter Try.func3, Try.ntmps3
    go_wp2_with (go_at_call 6; refine (awake_any w).mono ?_; rintro e w4 ⟨rfl, hb4⟩; have B4 := Lib.hid hb4; clear hb4)
    go_ret
    exact ⟨rfl, B4.out⟩

/-! ### THE ROW -/
theorem own : ownKnob Try.prog.godebug = none := by kernel_rfl

set_option maxRecDepth 100000 in
theorem lifted (os : Os) (started : os.Started) (H : Type) (enc : TypeId × Value → H) :
    ReturnsInHanded {} Try.checked os 3 .any (Rows.heapPlaysSpec.pre6 enc Try.prog Try.f3 Rows.heapPlaysRow.domain false) (Rows.heapPlaysSpec.post enc Try.prog Try.f3 false true false false) := by
  refine returnsInHanded_of_change (C := Try.checked) own started (by kernel_rfl) Try.func3
    (ChangeSpec.witness6 (enc := enc) (C := Try.checked) false ⟨#[], #[.slice none 0 0], []⟩ 8 (by kernel_rfl) (by kernel_rfl) (by kernel_rfl) (by kernel_rfl)) ?_
  intro W base args ds gs before hval0 hW hcnd _
  have hval : ∀ (j : Nat) t v, Try.f3.params[j]? = some t → args[j]? = some v → Value.okWide Try.prog W .any base t v := hval0
  have hW' := hW
  obtain ⟨p, q, hA0, hV, rfl, hfz, hnd⟩ := hW
  have hA : DataW.TrodAll enc Try.prog W 0 (fun _ => true) true Try.f3.params.toList args.toList ds p := hA0
  rw [Try.params3] at hA hval
  obtain ⟨v0, vs0, d0, ds0, p0, q0, hargs, rfl, rfl, h0, r0⟩ := trodAll_cons hA
  obtain ⟨rfl, rfl, rfl⟩ := trodAll_nil r0
  obtain rfl : args = #[v0] := by cases args; simp_all
  obtain ⟨rfl, rfl⟩ := trodVars_none hV
  obtain ⟨A0, n0, c0, fs0, rfl, hn0, hnc0, hcm0, hf0⟩ := open_acts6 Try.underlying22 Try.underlying30 rfl rfl rfl rfl rfl rfl Try.underlying3 Try.underlying3 Try.underlying3 (by kernel_rfl) (by kernel_rfl) (by kernel_rfl) (by kernel_rfl) (hval 0 22 v0 rfl rfl) h0
  refine (walk A0 n0 c0 fs0 W hn0 hnc0 hcm0 hf0).mono fun e W' ⟨he, hg⟩ => ?_
  subst he
  exact ⟨_, rfl, law_post hW' rfl (by kernel_rfl) (by kernel_rfl) (by kernel_rfl) Try.underlying4 rfl rfl rfl hg⟩

theorem over : Rows.heapPlaysRow.holds Try.pinned (OpenSpec.ofChange Rows.heapPlaysSpec) :=
  OpenClaim.holds_of_wide 3 Try.f3 rfl rfl rfl rfl rfl rfl rfl ⟨rfl, rfl, rfl, rfl, rfl⟩ rfl rfl rfl rfl rfl (by kernel_rfl) Try.func3 (by kernel_rfl)
    (of_decide_eq_true (by kernel_rfl)) (by unfold Func.isWrapper; first | (rw [if_pos (by decide +kernel)]; kernel_rfl) | (rw [if_neg (by decide +kernel)]; exact ⟨rfl, rfl⟩))
    (fun os started H enc _ => lifted os started H enc)

theorem proved : Rows.HeapPlaysSaid :=
  over
#print axioms proved

end Go.Proofs.Ytleibgihaplhnaa.HeapPlays
