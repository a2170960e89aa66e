/-
  MailOrder: letters of a class come in their order, and none ahead of one of a lower class. For every input, without conditions.
-/
import Derived.Test.YtbialoaphgmigaaMailA
import Derived.Test.YtbialoaphgmigaaLaw
import Derived.OwnWalk
namespace Go.Proofs.Ytbialoaphgmigaa.mailOrder
open Go.ChangeShapes Go.WideShapes Go.ChangeAt Go.RowKit Go.Conc Go.Proofs.Ytbialoaphgmigaa
set_option linter.unusedVariables false

/-- the values are letters from these senders -/
def lv (x : Nat × Option Addr × Nat) : Value := letV (x.1 : Int) 0 x.2.1 0 x.2.2
def Reads (q : List Value) (R : List Nat) : Prop := ∃ L : List (Nat × Option Addr × Nat), q = L.map lv ∧ R = L.map (·.1)
theorem Reads.nil : Reads [] [] := ⟨[], rfl, rfl⟩
theorem Reads.snoc {q : List Value} {R : List Nat} (h : Reads q R) (j : Nat) (A : Option Addr) (c : Nat) : Reads (q ++ [letV (j : Int) 0 A 0 c]) (R ++ [j]) := by
  obtain ⟨L, rfl, rfl⟩ := h
  exact ⟨L ++ [(j, A, c)], by simp [lv], by simp⟩
theorem Reads.cons {q : List Value} {j : Nat} {R : List Nat} (h : Reads q (j :: R)) : ∃ A c q', q = letV (j : Int) 0 A 0 c :: q' ∧ Reads q' R := by
  obtain ⟨L, rfl, e⟩ := h
  cases L with
  | nil => cases e
  | cons x L =>
    simp only [List.map_cons, List.cons.injEq] at e
    obtain ⟨rfl, rfl⟩ := e
    exact ⟨x.2.1, x.2.2, L.map lv, rfl, L, rfl, rfl⟩
theorem Reads.length {q : List Value} {R : List Nat} (h : Reads q R) : q.length = R.length := by
  obtain ⟨L, rfl, rfl⟩ := h
  simp
theorem Reads.empty {q : List Value} (h : Reads q []) : q = [] := List.length_eq_zero_iff.1 h.length

/-- a letter's class -/
def clsOf (bs : List UInt8) (j : Nat) : Nat := ((bs[j]?).getD 0).toNat % 3
theorem cls_val {bs : List UInt8} {i : Nat} {x : UInt8} (hx : bs[i]? = some x) : (wrap64 (x.toNat : Int)).tmod 3 = ((clsOf bs i : Nat) : Int) := by
  have h := x.toNat_lt
  have e : wrap64 (x.toNat : Int) = (x.toNat : Int) := by unfold wrap64; omega
  rw [e]
  unfold clsOf
  rw [hx]
  rfl
theorem cls_lt (bs : List UInt8) (j : Nat) : clsOf bs j < 3 := Nat.mod_lt _ (by omega)
/-- what the box holds: those of R -/
structure BoxR (bs : List UInt8) (lim tot : Nat) (R : Nat → List Nat) : Prop where
  ins : ∀ k, k < 3 → ∀ j, j ∈ R k → j < lim ∧ clsOf bs j = k
  up : ∀ k, k < 3 → (R k).Pairwise (· < ·)
  tot : (R 0).length + (R 1).length + (R 2).length = tot
def HoldsB (w : World) (g : Nat) (c : Nat → Nat) (R : Nat → List Nat) : Prop := ∃ q, IsB w g c 100 q ∧ ∀ k, k < 3 → Reads (q k) (R k)
theorem BoxR.start (bs : List UInt8) : BoxR bs 0 0 (fun _ => []) := ⟨fun k _ j h => absurd h (List.not_mem_nil), fun k _ => List.Pairwise.nil, rfl⟩
/-- one more -/
def more (R : Nat → List Nat) (m j : Nat) (k : Nat) : List Nat := if k = m then R m ++ [j] else R k
theorem BoxR.more {bs : List UInt8} {i : Nat} {R : Nat → List Nat} (h : BoxR bs i i R) : BoxR bs (i + 1) (i + 1) (more R (clsOf bs i) i) := by
  refine ⟨fun k hk j hj => ?_, fun k hk => ?_, ?_⟩
  · unfold mailOrder.more at hj
    split at hj
    · rename_i e
      subst e
      rcases List.mem_append.1 hj with hj | hj
      · have := h.ins _ hk j hj
        exact ⟨by omega, this.2⟩
      · rw [List.mem_singleton] at hj
        subst hj
        exact ⟨by omega, rfl⟩
    · have := h.ins _ hk j hj
      exact ⟨by omega, this.2⟩
  · unfold mailOrder.more
    split
    · rename_i e
      subst e
      refine List.pairwise_append.2 ⟨h.up _ hk, List.pairwise_singleton _ _, fun a ha b hb => ?_⟩
      rw [List.mem_singleton] at hb
      subst hb
      exact (h.ins _ hk a ha).1
    · exact h.up _ hk
  · have ht := h.tot
    have h3 := cls_lt bs i
    unfold mailOrder.more
    rcases (show clsOf bs i = 0 ∨ clsOf bs i = 1 ∨ clsOf bs i = 2 by omega) with e | e | e <;> simp [e] <;> omega
/-- the first of the lowest taken -/
def less (R : Nat → List Nat) (m : Nat) (r : List Nat) (k : Nat) : List Nat := if k = m then r else R k
theorem BoxR.less {bs : List UInt8} {lim t m j : Nat} {R : Nat → List Nat} {r : List Nat} (h : BoxR bs lim (t + 1) R) (hm : m < 3) (hj : R m = j :: r) : BoxR bs lim t (less R m r) ∧ (∀ x, x ∈ r → j < x) ∧ j < lim ∧ clsOf bs j = m := by
  have hu := h.up m hm
  rw [hj] at hu
  obtain ⟨hu1, hu2⟩ := List.pairwise_cons.1 hu
  have hi := h.ins m hm
  rw [hj] at hi
  refine ⟨⟨fun k hk x hx => ?_, fun k hk => ?_, ?_⟩, hu1, hi j List.mem_cons_self⟩
  · unfold mailOrder.less at hx
    split at hx
    · rename_i e
      subst e
      exact hi x (List.mem_cons_of_mem _ hx)
    · exact h.ins k hk x hx
  · unfold mailOrder.less
    split
    · exact hu2
    · exact h.up k hk
  · have ht := h.tot
    unfold mailOrder.less
    rcases (show m = 0 ∨ m = 1 ∨ m = 2 by omega) with e | e | e <;> subst e <;> rw [hj] at ht <;> simp at ht ⊢ <;> omega
theorem BoxR.lowest {bs : List UInt8} {lim t : Nat} {R : Nat → List Nat} (h : BoxR bs lim (t + 1) R) : ∃ m j r, m < 3 ∧ R m = j :: r ∧ ∀ k, k < m → R k = [] := by
  have ht := h.tot
  cases h0 : R 0 with
  | cons j r => exact ⟨0, j, r, by omega, h0, fun k hk => by omega⟩
  | nil =>
    cases h1 : R 1 with
    | cons j r => exact ⟨1, j, r, by omega, h1, fun k hk => by rw [show k = 0 by omega]; exact h0⟩
    | nil =>
      cases h2 : R 2 with
      | cons j r => exact ⟨2, j, r, by omega, h2, fun k hk => by rcases (show k = 0 ∨ k = 1 by omega) with rfl | rfl <;> assumption⟩
      | nil => rw [h0, h1, h2] at ht; simp at ht
theorem BoxR.none {bs : List UInt8} {lim : Nat} {R : Nat → List Nat} (h : BoxR bs lim 0 R) : ∀ k, k < 3 → R k = [] := by
  have ht := h.tot
  intro k hk
  rcases (show k = 0 ∨ k = 1 ∨ k = 2 by omega) with rfl | rfl | rfl <;> exact List.length_eq_zero_iff.1 (by omega)
theorem len_le {bs : List UInt8} {lim t : Nat} {R : Nat → List Nat} (h : BoxR bs lim t R) {k : Nat} (hk : k < 3) : (R k).length ≤ t := by
  have ht := h.tot
  rcases (show k = 0 ∨ k = 1 ∨ k = 2 by omega) with rfl | rfl | rfl <;> omega

set_option maxRecDepth 100000 in
set_option maxHeartbeats 2000000 in
theorem walk (A : Option Addr) (n c0 : Nat) (bs : List UInt8) (w : World) (hn : bs.length = n) (hnc : n ≤ c0) (hcm : c0 ≤ maxLen) (hs : Seen w A (bytesV bs)) :
    Calls Try.prog 4 #[.slice A n c0] w fun e w' => e = .returned (.bool true) ∧ Below w.heap.size w w' := by
  have Hn := Lib.hid hn; have Hs := Lib.hid hs
  clear hn hs
  by_cases hl : 60 < n
  · have hli : (60 : Int) < (n : Int) := by omega
    go_enter Try.func4, Try.ntmps4
    go_wp2_with (go_at_call 6; refine (awake_any w).mono ?_; rintro e w1 ⟨rfl, hb⟩; have Hb := Lib.hid hb; clear hb)
    go_ret
    exact ⟨rfl, Hb.out⟩
  · have hli : ¬ (60 : Int) < (n : Int) := by omega
    go_enter Try.func4, Try.ntmps4
    go_wp2_with fail
    refine (New_yes 100 w (by omega) (by omega)).mono ?_
    rintro e w1 ⟨g, c, rfl, hb1, hg, hc, hl1⟩
    have Hb1 := Lib.hid hb1; have Hc := Lib.hid hc; have Hl1 := Lib.hid hl1; have Hg := Lib.hid hg
    clear hb1 hg hc hl1
    go_wp2
    go_loopw [4] (fun iv wr => ∃ (i : Nat) (R : Nat → List Nat), i ≤ n ∧ iv = .int .i64 (i : Int) ∧ BoxR bs i i R ∧ HoldsB wr g c R ∧ Below w.heap.size w wr) (fun iv _ => n - (intOf iv).toNat)
    case atStart => exact ⟨0, fun _ => [], by omega, rfl, BoxR.start bs, ⟨_, Hb1.out, fun k hk => Reads.nil⟩, Hl1.out⟩
    case round =>
      obtain ⟨i, R, hi, rfl, hR, ⟨q, hB, hq⟩, hb⟩ := hrel
      have HR := Lib.hid hR; have HB := Lib.hid hB; have Hq := Lib.hid hq; have Hb := Lib.hid hb
      clear hR hB hq hb
      by_cases hlt : i < n
      · have k0 : (0 : Int) ≤ (i : Int) := by omega
        have k1 : (i : Int) < (n : Int) := by omega
        obtain ⟨ga, o, x, rfl, hx, hxt, hca⟩ := (Hs.out.below Hb.out).byteAt (j := i) (by rw [Hn.out]; exact hlt)
        have Hx := Lib.hid (And.intro hx hxt)
        clear hx hxt
        go_wp2_with fail
        rw [cls_val Hx.out.1]
        have hroom : (q (clsOf bs i)).length < 100 := by
          rw [(Hq.out _ (cls_lt bs i)).length]
          have := len_le HR.out (cls_lt bs i)
          omega
        refine (Post_yes g 100 c q (i : Int) 0 (clsOf bs i) none 0 0 [] wr HB.out (cls_lt bs i) rfl (by omega) (Seen.nil _ _) hroom).mono ?_
        rintro e w2 ⟨A2, c2, rfl, hb2, hown2, ht2⟩
        have Hl2 := Lib.hid (below_box Hb.out ht2 (Hc.out _ (cls_lt bs i)) (Nat.le_refl _))
        have Hh2 := Lib.hid (show HoldsB w2 g c (more R (clsOf bs i) i) from ⟨_, hb2, fun k hk => by
          unfold more
          by_cases e : k = clsOf bs i
          · rw [if_pos e, if_pos e]
            exact (Hq.out _ (cls_lt bs i)).snoc i A2 c2
          · rw [if_neg e, if_neg e]
            exact Hq.out k hk⟩)
        clear hb2 hown2 ht2 hroom
        go_wp2
        go_roundw
        case rel => exact ⟨i + 1, _, by omega, by go_num, HR.out.more, Hh2.out, Hl2.out⟩
        case measure => simp [intOf]; omega
      · have k1 : ¬ (i : Int) < (n : Int) := by omega
        obtain rfl : i = n := by omega
        clear hi hlt
        go_wp2
        go_loopw [5, 6, 7] (fun cv lav jv wr => ∃ (j cl : Nat) (la : Int) (R : Nat → List Nat), j ≤ i ∧ cl < 3 ∧ cv = .int .i64 (cl : Int) ∧ lav = .int .i64 la ∧ jv = .int .i64 (j : Int) ∧ BoxR bs i (i - j) R ∧ HoldsB wr g c R ∧ (∀ k, k < cl → R k = []) ∧ (∀ x, x ∈ R cl → la < (x : Int)) ∧ Below w.heap.size w wr) (fun _ _ jv _ => i - (intOf jv).toNat)
        case atStart => exact ⟨0, 0, -1, R, by omega, by omega, rfl, rfl, rfl, HR.out, ⟨q, HB.out, Hq.out⟩, fun k hk => by omega, fun x _ => by omega, Hb.out⟩
        case round =>
          obtain ⟨j, cl, la, R2, hj, hcl, rfl, rfl, rfl, hR2, ⟨q2, hB2, hq2⟩, hlow, hla, hb2⟩ := hrel
          have HR2 := Lib.hid hR2; have HB2 := Lib.hid hB2; have Hq2 := Lib.hid hq2; have Hlow := Lib.hid hlow; have Hla := Lib.hid hla; have Hb2 := Lib.hid hb2
          clear hR2 hB2 hq2 hlow hla hb2
          by_cases hlt : j < i
          · have j0 : (0 : Int) ≤ (j : Int) := by omega
            have j1 : (j : Int) < (i : Int) := by omega
            obtain ⟨t, ht⟩ : ∃ t, i - j = t + 1 := ⟨i - j - 1, by omega⟩
            have hR2 := HR2.out
            rw [ht] at hR2
            obtain ⟨m, x, r, hm, hRm, hmin⟩ := hR2.lowest
            obtain ⟨hless, hxr, hxi, hxm⟩ := hR2.less hm hRm
            have hqm := Hq2.out m hm
            rw [hRm] at hqm
            obtain ⟨A3, c3, q3, hq3, hrd3⟩ := hqm.cons
            have hge : ¬ m < cl := fun e => by
              have := Hlow.out m e
              rw [hRm] at this
              cases this
            have Hless := Lib.hid hless; have Hxr := Lib.hid hxr; have Hmin := Lib.hid hmin; have Hrd3 := Lib.hid hrd3; have Hq3 := Lib.hid hq3; have HRm := Lib.hid hRm; have Ht := Lib.hid ht
            obtain ⟨ga, o, y, rfl, hy, hyt, hca⟩ := Hs.out.byteAt (j := x) (by rw [Hn.out]; exact hxi)
            have hcv := cls_val hy
            rw [hxm] at hcv
            have Hy := Lib.hid (And.intro hca hcv)
            have hmx : cl = m → la < (x : Int) := fun e => Hla.out x (by rw [e, HRm.out]; exact List.mem_cons_self)
            have Hmx := Lib.hid hmx
            clear hless hxr hmin hrd3 hq3 hRm ht hR2 hqm hy hyt hca hcv hxm hmx
            go_wp2_with fail
            refine (Next_some g 100 c q2 m (x : Int) 0 A3 0 c3 q3 wr HB2.out hm (fun k hk => by have := Hq2.out k (by omega); rw [Hmin.out k hk] at this; exact this.empty) Hq3.out).mono ?_
            rintro e w3 ⟨rfl, hb3, ht3⟩
            have Hl3 := Lib.hid (below_box Hb2.out ht3 (Hc.out m hm) (Nat.le_refl _))
            obtain ⟨w4, hw4, hx4, hh4⟩ : ∃ w4, w3.alloc (.cells #[.int .i64 (x : Int), .int .i64 0, .slice A3 0 c3] 29) = w4 ∧ Below w3.heap.size w3 w4 ∧ w4.heap[w3.heap.size]? = some (.cells #[.int .i64 (x : Int), .int .i64 0, .slice A3 0 c3] 29 (0, 0)) :=
              ⟨_, rfl, (Below.refl _ _).alloc (Nat.le_refl _) _, heap_alloc_new _ _⟩
            have Hl4 := Lib.hid (Hl3.out.trans (hx4.mono Hl3.out.size))
            have hf4 : w4.cell? ⟨w3.heap.size, 0, none⟩ = some (.int .i64 (x : Int)) := row_cell hh4 0
            have hy4 : w4.cell? ⟨ga, o + x, none⟩ = some (.int .u8 (y.toNat : Int)) := by
              rw [Hl4.out.cell (p := ⟨ga, o + x, none⟩) (block_lt_of_cell Hy.out.1)]
              exact Hy.out.1
            have hcv := Hy.out.2
            have Hh4 := Lib.hid (show HoldsB w4 g c (less R2 m r) from ⟨_, hb3.below hx4, fun k hk => by
              unfold less
              by_cases e : k = m
              · rw [if_pos e, if_pos e]; exact Hrd3.out
              · rw [if_neg e, if_neg e]; exact Hq2.out k hk⟩)
            clear hb3 ht3 hx4 hh4
            have x0 : (0 : Int) ≤ (x : Int) := by omega
            have x1 : (x : Int) < (i : Int) := by omega
            have m0 : (cl : Int) ≤ (m : Int) := by omega
            rw [letV_eq]
            have x2 : ¬ i ≤ x := by omega
            have Hnew := Lib.hid (show BoxR bs i (i - (j + 1)) (less R2 m r) ∧ (∀ k, k < m → less R2 m r k = []) ∧ (∀ z, z ∈ less R2 m r m → (x : Int) < (z : Int)) from
              ⟨by rw [show i - (j + 1) = t by have := Ht.out; omega]; exact Hless.out, fun k hk => by unfold less; rw [if_neg (by omega)]; exact Hmin.out k hk, fun z hz => by unfold less at hz; rw [if_pos rfl] at hz; have := Hxr.out z hz; omega⟩)
            clear hge
            by_cases hmc : m = cl
            · subst hmc
              have hla4 : la < (x : Int) := Hmx.out rfl
              clear m0 hcl Hmx
              go_wp2_with (refine wpList_store_row rfl 29 (.tmp 8) (.tmp 47) rfl w3.heap.size #[.int .i64 (x : Int), .int .i64 0, .slice A3 0 c3] rfl rfl 29 _ (heap_alloc_new _ _) letter_size rfl (by simp [Value.oneCell']) ?_; rw [World.setRow_alloc_new, hw4])
              go_roundw
              case rel => exact ⟨j + 1, m, (x : Int), _, by omega, hm, rfl, rfl, by go_num, Hnew.out.1, Hh4.out, Hnew.out.2.1, Hnew.out.2.2, Hl4.out⟩
              case measure => simp [intOf]; omega
            · have hne : ¬ (m : Int) = (cl : Int) := by omega
              have m1 : (cl : Int) < (m : Int) := by omega
              go_wp2_with (refine wpList_store_row rfl 29 (.tmp 8) (.tmp 47) rfl w3.heap.size #[.int .i64 (x : Int), .int .i64 0, .slice A3 0 c3] rfl rfl 29 _ (heap_alloc_new _ _) letter_size rfl (by simp [Value.oneCell']) ?_; rw [World.setRow_alloc_new, hw4])
              go_roundw
              case rel => exact ⟨j + 1, m, (x : Int), _, by omega, hm, rfl, rfl, by go_num, Hnew.out.1, Hh4.out, Hnew.out.2.1, Hnew.out.2.2, Hl4.out⟩
              case measure => simp [intOf]; omega
          · have j1 : ¬ (j : Int) < (i : Int) := by omega
            obtain rfl : j = i := by omega
            have hR2 := HR2.out
            rw [Nat.sub_self] at hR2
            have Hnone := Lib.hid hR2.none
            clear hR2 hj hlt
            go_wp2_with fail
            refine (Next_none g 100 c q2 wr HB2.out (fun k hk => by have := Hq2.out k hk; rw [Hnone.out k hk] at this; exact this.empty)).mono ?_
            rintro e w3 ⟨rfl, hb3⟩
            have Hl3 := Lib.hid (Hb2.out.trans (hb3.mono Hb2.out.size))
            obtain ⟨w4, hw4, hx4⟩ : ∃ w4, w3.alloc (.cells #[.int .i64 0, .int .i64 0, .slice none 0 0] 29) = w4 ∧ Below w3.heap.size w3 w4 := ⟨_, rfl, (Below.refl _ _).alloc (Nat.le_refl _) _⟩
            have Hl4 := Lib.hid (Hl3.out.trans (hx4.mono Hl3.out.size))
            have Hw4 := Lib.hid hw4
            clear hb3 hx4 hw4
            unfold zeroL
            go_wp2_with (first
              | (refine wpList_store_row rfl 29 (.tmp 11) (.tmp 97) rfl w3.heap.size #[.int .i64 0, .int .i64 0, .slice none 0 0] rfl rfl 29 _ (heap_alloc_new _ _) letter_size rfl (by simp [Value.oneCell']) ?_; rw [World.setRow_alloc_new, Hw4.out])
              | (go_at_call 6; refine (awake_any w4).mono ?_; rintro e w5 ⟨rfl, hb5⟩; have Hl5 := Lib.hid (Hl4.out.trans (hb5.mono Hl4.out.size)); clear hb5))
            go_ret
            exact ⟨rfl, Hl5.out⟩

/-! ### THE ROW -/
theorem own : ownKnob Try.prog.godebug = none := by kernel_rfl

set_option maxRecDepth 100000 in
theorem lifted (os : Os) (started : os.Started) (H : Type) (enc : TypeId × Value → H) :
    ReturnsInHanded {} Try.checked os 4 .any (Rows.mailOrderSpec.pre6 enc Try.prog Try.f4 Rows.mailOrderRow.domain false) (Rows.mailOrderSpec.post enc Try.prog Try.f4 false true false false) := by
  refine returnsInHanded_of_change (C := Try.checked) own started (by kernel_rfl) Try.func4
    (ChangeSpec.witness6 (enc := enc) (C := Try.checked) false ⟨#[], #[.slice none 0 0], []⟩ 8 (by kernel_rfl) (by kernel_rfl) (by kernel_rfl) (by kernel_rfl)) ?_
  intro W base args ds gs before hval0 hW hcnd _
  have hval : ∀ (j : Nat) t v, Try.f4.params[j]? = some t → args[j]? = some v → Value.okWide Try.prog W .any base t v := hval0
  have hW' := hW
  obtain ⟨p, q, hA0, hV, rfl, hfz, hnd⟩ := hW
  have hA : DataW.TrodAll enc Try.prog W 0 (fun _ => true) true Try.f4.params.toList args.toList ds p := hA0
  rw [Try.params4] at hA hval
  obtain ⟨v0, vs0, d0, ds0, p0, q0, hargs, rfl, rfl, h0, r0⟩ := trodAll_cons hA
  obtain ⟨rfl, rfl, rfl⟩ := trodAll_nil r0
  obtain rfl : args = #[v0] := by cases args; simp_all
  obtain ⟨rfl, rfl⟩ := trodVars_none hV
  obtain ⟨A0, n0, c0, bs0, rfl, hn0, hnc0, hcm0, hsee0⟩ := open_bytes Try.underlying27 Try.underlying5 (by kernel_rfl) (hval 0 27 v0 rfl rfl) h0
  refine (walk A0 n0 c0 bs0 W hn0 hnc0 hcm0 hsee0).mono fun e W' ⟨he, hg⟩ => ?_
  subst he
  exact ⟨_, rfl, law_post hW' rfl (by kernel_rfl) (by kernel_rfl) (by kernel_rfl) Try.underlying4 rfl rfl rfl hg⟩

theorem over : Rows.mailOrderRow.holds Try.pinned (OpenSpec.ofChange Rows.mailOrderSpec) :=
  OpenClaim.holds_of_wide 4 Try.f4 rfl rfl rfl rfl rfl rfl rfl ⟨rfl, rfl, rfl, rfl, rfl⟩ rfl rfl rfl rfl rfl (by kernel_rfl) Try.func4 (by kernel_rfl)
    (of_decide_eq_true (by kernel_rfl)) (by unfold Func.isWrapper; first | (rw [if_pos (by decide +kernel)]; kernel_rfl) | (rw [if_neg (by decide +kernel)]; exact ⟨rfl, rfl⟩))
    (fun os started H enc _ => lifted os started H enc)

theorem proved : Rows.MailOrderSaid :=
  over
#print axioms proved

end Go.Proofs.Ytbialoaphgmigaa.mailOrder
