/-
  Contracts of (*rlog.Log).From and Get. Conditions: a log in memory.
-/
import Derived.Test.YtigjkmlhpefafaaRlgMat
import Derived.Test.YtigjkmlhpefafaaMade
namespace Go.Proofs.Ytigjkmlhpefafaa
open Go.ChangeShapes Go.WideShapes Go.ChangeAt Go.RowKit
set_option linter.unusedVariables false

/-! ### a row that is filled, entry by entry -/
def RowAt (w : World) (b cnt : Nat) (Z : List Ent) : Prop := ∃ rest : List Value, w.heap[b]? = some (.cells (entsV Z ++ rest).toArray 28 (0, 0)) ∧ rest.length = (cnt - Z.length) * 3
theorem RowAt.below {w w' : World} {b cnt : Nat} {Z : List Ent} (h : RowAt w b cnt Z) (hb : Below w.heap.size w w') : RowAt w' b cnt Z := by
  obtain ⟨rest, h1, h2⟩ := h
  exact ⟨rest, (hb.block b (Array.getElem?_eq_some_iff.1 h1).1).trans h1, h2⟩
theorem RowAt.lt {w : World} {b cnt : Nat} {Z : List Ent} (h : RowAt w b cnt Z) : b < w.heap.size := by
  obtain ⟨rest, h1, h2⟩ := h
  exact (Array.getElem?_eq_some_iff.1 h1).1
def stEnt (p v : Value) : Sem Unit := Instr.storeAt 28 p v
theorem stEnt_eq (p v : Value) : Instr.storeAt 28 p v = stEnt p v := rfl
theorem turned_cells {p : Nat → Prop} {a : World} {b : Nat} (hb : b < a.heap.size → p b) : ∀ (vs : List Value) (o : Nat) (w : World), Turned p a w → Turned p a (w.setCells b o vs)
  | [], o, w, h => h
  | v :: r, o, w, h => turned_cells hb r (o + 1) (w.setCell ⟨b, o, none⟩ v) (h.setCell (b := ⟨b, o, none⟩) hb v)
theorem list_three (A R : List Value) (a b c x y z : Value) {n : Nat} (hn : A.length = n) :
    (((A ++ a :: b :: c :: R).toArray.setIfInBounds n x).setIfInBounds (n + 1) y).setIfInBounds (n + 1 + 1) z = (A ++ [x, y, z] ++ R).toArray := by
  subst hn
  apply Array.ext'
  simp [List.set_append]
  rw [if_neg (by omega), show A.length + 1 + 1 - A.length = 2 by omega]
  rfl
/-- an entry stored at its place -/
theorem RowAt.put {w : World} {b cnt j : Nat} {Z : List Ent} (h : RowAt w b cnt Z) (hj : Z.length = j) (hlt : j < cnt) (e : Ent) :
    ∃ w', (stEnt (.pointer (some ⟨b, j * 3, none⟩)) (.agg #[.int .i64 e.t, .int .i64 e.k, .slice e.A e.n e.c])).run Try.prog w = .ok () w' ∧ RowAt w' b cnt (Z ++ [e]) ∧ Turned (fun k => k = b) w w' := by
  obtain ⟨rest, h1, h2⟩ := h
  subst hj
  match rest, h2 with
  | [], h2 => simp at h2; omega
  | [a], h2 => simp at h2; omega
  | [a, c], h2 => simp at h2; omega
  | a :: c :: d :: rest, h2 =>
    have hsz : (entsV Z ++ a :: c :: d :: rest).toArray.size = Z.length * 3 + 3 + rest.length := by simp [entsV_length]; omega
    have hth : w.there b (Z.length * 3) 3 := fun i hi => ⟨by rw [row_cell h1, Array.getElem?_eq_getElem (by rw [hsz]; omega)]; rfl, row_frozen h1 _⟩
    refine ⟨_, run_storeAt_mid w b (Z.length * 3) 28 #[.int .i64 e.t, .int .i64 e.k, .slice e.A e.n e.c] hth ent_size (by simp [Value.oneCell']), ⟨rest, ?_, ?_⟩, turned_cells (p := fun k => k = b) (fun _ => rfl) _ _ _ (Turned.refl _ _)⟩
    · have := row_set (row_set (row_set h1 (Z.length * 3) (.int .i64 e.t)) (Z.length * 3 + 1) (.int .i64 e.k)) (Z.length * 3 + 1 + 1) (.slice e.A e.n e.c)
      rw [list_three _ _ _ _ _ _ _ _ (entsV_length Z)] at this
      rw [entsV_append, entsV_one1]
      exact this
    · simp only [List.length_cons] at h2
      rw [List.length_append, List.length_singleton]
      omega
theorem made_row {w : World} {base b n : Nat} (h : w.ownsRow base 28 3 (.slice (some ⟨b, 0, none⟩) n n) n (madeCells (Value.agg #[.int .i64 0, .int .i64 0, .slice none 0 0]).cells (n * 3)).toList) : RowAt w b n [] := by
  have hl : (madeCells (Value.agg #[.int .i64 0, .int .i64 0, .slice none 0 0]).cells (n * 3)).toList.length = n * 3 := by rw [Array.length_toList, size_madeCells]
  exact ⟨_, made_blk h hl, by rw [hl]; rfl⟩
/-- the row, when it is full -/
theorem RowAt.full {w : World} {B b cnt : Nat} {Z : List Ent} (h : RowAt w b cnt Z) (hz : Z.length = cnt) (hb : B ≤ b) (hl : cnt ≤ 1000000) : w.ownsRow B 28 3 (.slice (some ⟨b, 0, none⟩) cnt cnt) cnt (entsV Z) := by
  obtain ⟨rest, h1, h2⟩ := h
  subst hz
  rw [Nat.sub_self, Nat.zero_mul] at h2
  have := List.length_eq_zero_iff.1 h2
  subst this
  rw [List.append_nil] at h1
  refine ⟨entsV_length Z, .inr ⟨b, _, _, rfl, hb, h1, Nat.le_refl _, by unfold maxLen; omega, by simp [entsV_length], ?_⟩⟩
  simp only
  exact List.take_of_length_le (by rw [entsV_length]; omega)

/-- what From hands back: entries in a row of their own -/
def FromRet (cnt : Nat) (z : List Dat) (w : World) (en : Ending) (w' : World) : Prop :=
  ∃ A c Z, en = .returned (.slice A cnt c) ∧ w'.ownsRow w.heap.size 28 3 (.slice A cnt c) cnt (entsV Z) ∧ (∀ e ∈ Z, EntOk w' e) ∧ Z.map Ent.dat = z ∧ Below w.heap.size w w'
set_option maxRecDepth 100000 in
theorem From_none (B g n : Nat) (q : Option Nat) (base term i most : Int) (X : List Ent) (w : World) (h : LogAt w B g q base term X) (hn : X.length = n) (h0 : 0 ≤ base) (h1 : i ≤ base ∨ base + n < i) (h3 : i ≤ 9223372036854775807) :
    Calls Try.prog 13 #[.pointer (some ⟨g, 0, none⟩), .int .i64 i, .int .i64 most] w (FromRet 0 [] w) := by
  have KH := Lib.hid (has_no B g n q base term i X w h hn h0 h1 h3)
  clear h hn h0 h1 h3
  go_enter Try.func13, Try.ntmps13
  go_wp2_with (go_at_call 18; refine KH.out.mono ?_; rintro e w1 ⟨rfl, hb1⟩; have Hb1 := Lib.hid hb1; clear hb1)
  go_ret
  exact ⟨none, 0, [], rfl, World.ownsRow_nil _ _ _ _, (fun e he => by cases he), rfl, Hb1.out⟩

attribute [local go_sem ↓] ldEnt_eq stEnt_eq
set_option maxRecDepth 100000 in
set_option maxHeartbeats 2000000 in
theorem From_some (B g n p cnt : Nat) (q : Option Nat) (base term i most : Int) (X : List Ent) (w : World) (h : LogAt w B g q base term X) (hn : X.length = n) (h0 : 0 ≤ base) (h3 : base ≤ 4611686018427387904) (hp : p < n) (hi : i = base + p + 1) (hl : n ≤ 100000) (hm : 1 ≤ most) (hc : (most ≤ ((n - p : Nat) : Int) ∧ (cnt : Int) = most) ∨ (((n - p : Nat) : Int) < most ∧ cnt = n - p)) :
    Calls Try.prog 13 #[.pointer (some ⟨g, 0, none⟩), .int .i64 i, .int .i64 most] w (FromRet cnt (((X.map Ent.dat).drop p).take cnt) w) := by
  have KH := Lib.hid (has_yes B g n q base term i X w h hn h0 (by omega) (by omega) (by omega))
  have H := Lib.hid h; have Hn := Lib.hid hn
  have m1 : ¬ most < 1 := by omega
  have hcn : cnt ≤ n - p := by omega
  have hc0 : 0 < cnt := by omega
  have hmin : min most ((n - p : Nat) : Int) = (cnt : Int) := by
    rcases hc with ⟨h1, h2⟩ | ⟨h1, h2⟩
    · rw [Int.min_eq_left h1]; exact h2.symm
    · rw [Int.min_eq_right (by omega)]; omega
  have s1 : IntKind.i64.wrap (i - base) = (p : Int) + 1 := by rw [i64_sub (by omega) (by omega)]; omega
  have s2 : IntKind.i64.wrap (p : Int) = (p : Int) := by have := i64_add (a := (p : Int)) (b := 0) (by omega) (by omega); simpa using this
  have p0 : (0 : Int) ≤ (p : Int) := by omega
  have p1 : (p : Int) ≤ (n : Int) := by omega
  clear h hn hi
  go_enter Try.func13, Try.ntmps13
  go_upto_region 3 with (go_at_call 18; refine KH.out.mono ?_; rintro e w1 ⟨rfl, hb1⟩; have Hb1 := Lib.hid hb1; clear hb1)
  have H1 := Lib.hid (H.out.below Hb1.out)
  obtain ⟨A, c, hrow0, hown, hq⟩ := H.out.row
  have hrow := (Hb1.out.block g (Array.getElem?_eq_some_iff.1 hrow0).1).trans hrow0
  rw [Hn.out] at hrow hown hq
  obtain ⟨gA, cc, hf, hg1, hg2⟩ := hown.form (by omega)
  injection hf with hf1 _ hf2
  subst hf1
  subst hf2
  have hcc := own_capL hown
  have hpc : p ≤ c := by have := hcc.1; omega
  have hpc2 : ¬ c = p := by have := hcc.1; omega
  have p2 : (p : Int) ≤ (c : Int) := by omega
  have a0 : w1.cell? ⟨g, 0, none⟩ = some (.int .i64 base) := row_cell hrow 0
  have a2 : w1.cell? ⟨g, 2, none⟩ = some (.slice (some ⟨gA, 0, none⟩) n c) := row_cell hrow 2
  have Hown := Lib.hid hown
  obtain ⟨i0, hi0, hz0, hz1, hz2⟩ := info_parts ent_info
  have HI := Lib.hid (And.intro hi0 (And.intro hz0 (And.intro hz1 hz2)))
  clear hrow hrow0 hown hq hcc hi0 hz0 hz1 hz2
  go_quiet (fail)
  obtain ⟨w2, hw2, hb2⟩ : ∃ w2, w1.drewN nq = w2 ∧ Below w.heap.size w w2 := ⟨_, rfl, below_drewN Hb1.out _⟩
  rw [hw2]
  have Hb2 := Lib.hid hb2
  clear hw2 hb2 a0 a2 s1 s2
  have hcut0 : (most ≤ ((n - p : Nat) : Int) → most = (cnt : Int)) ∧ (¬ most ≤ ((n - p : Nat) : Int) → ((n - p : Nat) : Int) = (cnt : Int)) := by
    rcases hc with ⟨h1, h2⟩ | ⟨h1, h2⟩
    · exact ⟨fun _ => h2.symm, fun h => absurd h1 h⟩
    · exact ⟨fun h => by omega, fun _ => by omega⟩
  have HC0 := Lib.hid hcut0
  clear hcut0 hc hmin
  go_upto_region 4 with fail
  go_cut [8] (fun v wx => v = .slice (some ⟨w2.heap.size, 0, none⟩) cnt cnt ∧ RowAt wx w2.heap.size cnt [] ∧ Below w.heap.size w wx)
  case first =>
    by_cases hmn : most ≤ ((n - p : Nat) : Int)
    · have hmc := HC0.out.1 hmn
      have Hmc := Lib.hid hmc
      clear hmc
      go_wp2_with (at_make; go_loud (refine wpList_make_full _ rfl (.tmp 33) (.tmp 33) _ rfl w2.heap.size 28 i0 _ 3 Try.underlying35 HI.out.1 HI.out.2.1 HI.out.2.2.1 .i64 .i64 _ _ cnt rfl rfl (by first | exact Hmc.out | (rw [if_pos (by omega)]; exact Hmc.out)) (by first | exact Hmc.out | (rw [if_pos (by omega)]; exact Hmc.out)) (by rw [HI.out.2.2.2]; omega) (by unfold maxLen; omega) (Nat.le_refl _) ?_; intro w3 hown3 hg3; have hr3 := made_row hown3; have hb3 : Below w.heap.size w w3 := Hb2.out.grown hg3 Hb2.out.size (by simp); have Hr3 := Lib.hid hr3; have Hb3 := Lib.hid hb3; clear hown3 hg3 hr3 hb3))
      go_meet
      exact ⟨rfl, Hr3.out, Hb3.out⟩
    · have hmc := HC0.out.2 hmn
      have Hmc := Lib.hid hmc
      clear hmc
      go_wp2_with (at_make; go_loud (refine wpList_make_full _ rfl (.tmp 33) (.tmp 33) _ rfl w2.heap.size 28 i0 _ 3 Try.underlying35 HI.out.1 HI.out.2.1 HI.out.2.2.1 .i64 .i64 _ _ cnt rfl rfl (by first | exact Hmc.out | (rw [if_pos (by omega)]; exact Hmc.out)) (by first | exact Hmc.out | (rw [if_pos (by omega)]; exact Hmc.out)) (by rw [HI.out.2.2.2]; omega) (by unfold maxLen; omega) (Nat.le_refl _) ?_; intro w3 hown3 hg3; have hr3 := made_row hown3; have hb3 : Below w.heap.size w w3 := Hb2.out.grown hg3 Hb2.out.size (by simp); have Hr3 := Lib.hid hr3; have Hb3 := Lib.hid hb3; clear hown3 hg3 hr3 hb3))
      go_meet
      exact ⟨rfl, Hr3.out, Hb3.out⟩
  case rest =>
    obtain ⟨rfl, hr3, hb3⟩ := hcut
    have Hr3 := Lib.hid hr3; have Hb3 := Lib.hid hb3
    clear hr3 hb3
    have hw2 := Hb2.out.size
    have Hw2 := Lib.hid hw2
    clear hw2
    go_wp2
    go_loopw [37] (fun iv wr => ∃ (j : Nat) (Z : List Ent), j ≤ cnt ∧ iv = .int .i64 (j : Int) ∧ Z.length = j ∧ RowAt wr w2.heap.size cnt Z ∧ (∀ e ∈ Z, EntOk wr e) ∧ Z.map Ent.dat = (((X.map Ent.dat).drop p).take j) ∧ Below w.heap.size w wr) (fun iv _ => cnt - (intOf iv).toNat)
    case atStart => exact ⟨0, [], by omega, rfl, rfl, Hr3.out, (fun e he => by cases he), rfl, Hb3.out⟩
    case round =>
      obtain ⟨j, Z, hj, rfl, hz, hr, hok, hzd, hb⟩ := hrel
      have Hz := Lib.hid hz; have Hr := Lib.hid hr; have Hok := Lib.hid hok; have Hzd := Lib.hid hzd; have Hb := Lib.hid hb
      clear hz hr hok hzd hb
      have j0 : (0 : Int) ≤ (j : Int) := by omega
      by_cases hlt : j < cnt
      · obtain ⟨e, he⟩ : ∃ e, X[p + j]? = some e := ⟨_, List.getElem?_eq_getElem (by have := Hn.out; omega)⟩
        obtain ⟨e0, e1, e2⟩ := entsV_get he
        have hor := own_belowM Hown.out Hb.out
        have hlx : (p + j) * 3 + 2 < n * 3 := by omega
        have l0 : wr.cell? ⟨gA, (p + j) * 3, none⟩ = some (.int .i64 e.t) := by rw [hor.cellAt _ (by omega)]; exact e0
        have l1 : wr.cell? ⟨gA, (p + j) * 3 + 1, none⟩ = some (.int .i64 e.k) := by rw [hor.cellAt _ (by omega)]; exact e1
        have l2 : wr.cell? ⟨gA, (p + j) * 3 + 2, none⟩ = some (.slice e.A e.n e.c) := by rw [hor.cellAt _ (by omega)]; exact e2
        rw [show (p + j) * 3 = p * 3 + j * 3 by omega] at l0 l1 l2
        have hld := ldEnt_run l0 l1 l2
        have hoke := (H.out.ok e (List.mem_of_getElem? he)).below Hb.out
        have hel := hoke.small
        have hbl := Hr.out.lt
        have KC := Lib.hid (clone_any e.t e.k e.A e.n e.c e.bs wr hoke.len hoke.small hoke.see.1)
        have He := Lib.hid he; have Hoke := Lib.hid hoke
        clear hor hlx l0 l1 l2 e0 e1 e2 he hoke
        go_wp2_with (go_at_call 16; refine KC.out.mono ?_; rintro en w5 ⟨A5, c5, rfl, hown5, hb5⟩; simp only at hown5; obtain ⟨w6, hst, hr6, ht6⟩ := (Hr.out.below hb5).put (j := j) Hz.out hlt ⟨e.t, e.k, A5, e.n, c5, e.bs⟩; simp only at hst; have Hown5 := Lib.hid hown5; have Hb5 := Lib.hid hb5; have Hr6 := Lib.hid hr6; have Ht6 := Lib.hid ht6; clear hown5 hb5 hr6 ht6)
        go_roundw
        case rel =>
          have hnb : NoBytes w5 (fun k => k = w2.heap.size) := fun k cs fr hk e => by
            obtain ⟨rest, hh, _⟩ := Hr.out.below Hb5.out
            rw [hk, hh] at e
            injection e with e
            injection e with _ e
            exact absurd e (by decide)
          refine ⟨j + 1, Z ++ [⟨e.t, e.k, A5, e.n, c5, e.bs⟩], by omega, by go_num, by rw [List.length_append, Hz.out]; rfl, Hr6.out, fun x hx => ?_, ?_, ?_⟩
          · rcases List.mem_append.1 hx with hx | hx
            · exact ((Hok.out x hx).below Hb5.out).turned Ht6.out hnb
            · rw [List.mem_singleton.1 hx]
              exact EntOk.turned ⟨Hoke.out.len, hel, SeenU.own Hown5.out⟩ Ht6.out hnb
          · have hyj : ((X.map Ent.dat).drop p)[j]? = some (e.t, e.k, e.bs) := by
              rw [List.getElem?_drop, List.getElem?_map, He.out]
              rfl
            obtain ⟨hl, hv⟩ := List.getElem?_eq_some_iff.1 hyj
            rw [List.map_append, Hzd.out, List.take_succ_eq_append_getElem hl, hv]
            rfl
          · exact (Hb.out.trans (Hb5.out.mono Hb.out.size)).trans (Ht6.out.below (fun k e => by have := Hw2.out; omega) (by have := Hb.out.size; have := Hb5.out.size; omega))
        case measure => simp [intOf]; omega
      · obtain rfl : j = cnt := by omega
        go_wp2
        go_ret
        exact ⟨_, _, Z, rfl, Hr.out.full Hz.out Hw2.out (by omega), Hok.out, Hzd.out, Hb.out⟩
end Go.Proofs.Ytigjkmlhpefafaa
