/-
  QuorumRises: who has more can't make a majority have less; what all have a majority has; it holds for every input (of up to seven members, and up to 20 numbers, else the example), and the arguments stay as they were. No condition.
-/
import Derived.Test.YtpoooehnobfjfaaQuoAwk
import Derived.Test.YtpoooehnobfjfaaU16
import Derived.Test.YtpoooehnobfjfaaNums
import Derived.Test.YtpoooehnobfjfaaRows
import Derived.Test.YtpoooehnobfjfaaChecked
namespace Go.Proofs.Ytpoooehnobfjfaa.QuorumRises
open Go.ChangeShapes Go.WideShapes Go.ChangeAt Go.RowKit Go.Maps
set_option linter.unusedVariables false

theorem rightUp {k : Nat} (h : 1 ≤ k) (h7 : k ≤ 7) : RightQ (upTo k) := by
  have hl : (upTo k).length = k := by simp [upTo]
  refine ⟨by rw [hl]; exact ⟨h, h7⟩, fun x hx => ?_, rising_upTo k⟩
  unfold upTo at hx
  obtain ⟨j, hj, rfl⟩ := List.mem_map.1 hx
  have := List.mem_range.1 hj
  unfold InQ
  omega
theorem mem_up {k : Nat} {x : Int} (h : x ∈ upTo k) : ∃ j : Nat, j < k ∧ x = (j : Int) := by
  unfold upTo at h
  obtain ⟨j, hj, rfl⟩ := List.mem_map.1 h
  exact ⟨j, List.mem_range.1 hj, rfl⟩
theorem upTo_length (k : Nat) : (upTo k).length = k := by simp [upTo]
theorem cnt_more {l : List Int} {f g : Int → Int} (h : ∀ x ∈ l, f x ≤ g x) (v : Int) : cntGe (l.map f) v ≤ cntGe (l.map g) v := by
  unfold cntGe
  rw [List.countP_map, List.countP_map]
  refine List.countP_mono_left fun x hx hp => ?_
  have := h x hx
  simp only [Function.comp, decide_eq_true_eq] at hp ⊢
  omega
/-- what the first k have -/
def Has16 (hv : List Nat) (k : Nat) (f : Int → Int) : Prop := ∀ j : Nat, j < k → f (j : Int) = ((hv.getD j 0 : Nat) : Int)
theorem has_more {hv : List Nat} {k : Nat} {f : Int → Int} {y : Nat} (h : Has16 hv k f) (hy : hv[k]? = some y) : Has16 hv (k + 1) (upd f (k : Int) (y : Int)) := by
  intro j hj
  by_cases e : j = k
  · subst e
    rw [upd_same, List.getD_eq_getElem?_getD, hy]; rfl
  · rw [upd_other (by omega), h j (by omega)]
def Least16 (hv : List Nat) (k : Nat) (z : Int) : Prop := ∀ j : Nat, j < k → z ≤ ((hv.getD j 0 : Nat) : Int)
theorem least_more {hv : List Nat} {k : Nat} {z u : Int} {y : Nat} (h : Least16 hv k z) (hy : hv[k]? = some y) (h1 : u ≤ z) (h2 : u ≤ (y : Int)) : Least16 hv (k + 1) u := by
  intro j hj
  by_cases e : j = k
  · subst e
    rw [List.getD_eq_getElem?_getD, hy]
    exact h2
  · have := h j (by omega)
    omega
/-- a row of cells is no map -/
theorem own_map {w : World} {B n c b N : Nat} {e : TypeId} {A : Option Addr} {xs : List Value} {f : Int → Int} (ho : w.ownsRow B e 1 (.slice A n c) n xs) (hm : MapF w b N f) : ∀ k, (Value.slice A n c).ownBlock = some k → k ≠ b := by
  intro k hk e2
  subst e2
  obtain ⟨ks, F, h1, _⟩ := hm
  obtain ⟨es, cl, hc⟩ := map_lt h1
  rcases ho.2 with ⟨h, _⟩ | ⟨g, cap, cur, h, _, hg, _⟩
  · rw [h] at hk; cases hk
  · rw [h] at hk
    injection hk with hk
    subst hk
    rw [hc] at hg
    cases hg

set_option maxRecDepth 100000 in
set_option maxHeartbeats 2000000 in
theorem walkIn (a p q : Int) (A2 : Option Addr) (n2 c2 K : Nat) (hv : List Nat) (w : World) (ha : 0 ≤ a ∧ a ≤ 255) (hp : 0 ≤ p ∧ p ≤ 255) (hq : 0 ≤ q ∧ q ≤ 255) (hK : K = 1 + a.toNat % 7) (h2 : hv.length = n2) (s2 : Seen w A2 (u16V hv)) (i2 : ∀ x ∈ hv, x < 65536) (m1 : K ≤ n2) (m2 : n2 ≤ 20) :
    Calls Try.prog 6 #[.int .u8 a, .slice A2 n2 c2, .int .u8 p, .int .u8 q] w fun e w' => e = .returned (.bool true) ∧ Below w.heap.size w w' := by
  have S2 := Lib.hid s2; have H2 := Lib.hid h2; have I2 := Lib.hid i2
  obtain ⟨r, hr⟩ : ∃ r, a.toNat % 7 = r := ⟨_, rfl⟩
  have e1 : Int.tmod a 7 = (r : Int) := by rw [Int.tmod_eq_emod_of_nonneg ha.1]; omega
  have e2 : IntKind.i64.wrap a = a := by rw [IntKind.wrap_i64]; omega
  have e3 : IntKind.i64.wrap (r : Int) = (r : Int) := by rw [IntKind.wrap_i64]; omega
  have e4 : IntKind.i64.wrap (1 + (r : Int)) = (K : Int) := by rw [IntKind.wrap_i64]; omega
  have e5 : (1 : Int) + (r : Int) = (K : Int) := by omega
  obtain ⟨k1, k7⟩ : 1 ≤ K ∧ K ≤ 7 := by omega
  obtain ⟨p1, p2⟩ := hp
  obtain ⟨q1, q2⟩ := hq
  have l1 : ¬ (n2 : Int) < (K : Int) := by omega
  have l2 : ¬ (20 : Int) < (n2 : Int) := by omega
  have hmm := @run_makeMap Try.prog
  obtain ⟨W2, hW2⟩ : ∃ W2, w.alloc (.map #[] 0) = W2 := ⟨_, rfl⟩
  have hmap : MapF W2 w.heap.size 0 (fun _ => 0) := by rw [← hW2]; exact MapF.made w
  have hb2 : Below w.heap.size w W2 := by rw [← hW2]; exact (Below.refl _ _).alloc (Nat.le_refl _) _
  have Hmap := Lib.hid hmap
  have Hb2 := Lib.hid hb2
  have E5 := Lib.hid e5
  clear hmap hb2 s2 h2 i2 e5
  go_enter Try.func6, Try.ntmps6
  go_upto_region 2 with fail
  rw [E5.out]
  clear e1 e2 e3 e4 hK hr E5
  go_wp2
  clear hW2 hmm l2
  go_loopw [10, 12, 13] (fun lv zv i wr => ∃ (k : Nat) (A : Option Addr) (c : Nat) (f : Int → Int) (z : Int), k ≤ K ∧ i = .int .i64 k ∧ lv = .slice A k c ∧ zv = .int .i64 z ∧ (0 ≤ z ∧ z ≤ 1048576) ∧ wr.ownsRow w.heap.size 3 1 (.slice A k c) k (numsV (upTo k)) ∧ MapF wr w.heap.size k f ∧ Has16 hv k f ∧ Least16 hv k z ∧ Below w.heap.size w wr) (fun _ _ i _ => K - (intOf i).toNat)
  case atStart => exact ⟨0, none, 0, _, 1048576, by omega, rfl, rfl, rfl, by omega, World.ownsRow_nil _ _ _ _, Hmap.out, fun j hj => absurd hj (by omega), fun j hj => absurd hj (by omega), Hb2.out⟩
  case round =>
    obtain ⟨k, A, c, f, z, hk, rfl, rfl, rfl, ⟨z1, z2⟩, hown, hmap, hhas, hleast, hbw⟩ := hrel
    have Hown := Lib.hid hown; have Hmap := Lib.hid hmap; have Hhas := Lib.hid hhas; have Hleast := Lib.hid hleast; have Hbw := Lib.hid hbw
    clear hown hmap hhas hleast hbw
    by_cases hlt : k < K
    · obtain ⟨g, o, y, rfl, hy, hc⟩ := (S2.out.below Hbw.out).u16 (j := k) (by have := H2.out; omega)
      have hy6 := I2.out y (List.mem_of_getElem? hy)
      have Hy := Lib.hid hy; clear hy
      have hgl := block_lt_of_cell hc
      have Hc := Lib.hid hc; clear hc
      have b0 : (0 : Int) ≤ (k : Int) := by omega
      have b1 : (k : Int) < (K : Int) := by omega
      have b2 : (k : Int) < (n2 : Int) := by omega
      have y1 : IntKind.i64.wrap (y : Int) = (y : Int) := by rw [IntKind.wrap_i64]; omega
      go_wp2_with (first
          | (at_builtin; refine wpList_app2 rfl (.tmp 36) (.tmp 38) _ rfl 3 _ 8 Try.underlying22 int_info rfl w.heap.size A k c (numsV (upTo k)) rfl (Hown.out.alloc _) (some ⟨wr.heap.size, 0, none⟩) 1 1 [Value.int .i64 (k : Int)] rfl rfl (Seen.of_cells (heap_alloc_new wr _)) (by simp [Value.oneCell']) (by unfold maxLen; omega) (by omega) (by have := Hbw.out.size; simp; omega) ?_; intro A4 c4 w4 hown4 hg4 hr4; have Hown4 := Lib.hid hown4; have ht4 := Turned.of_grown hg4 (p := fun j => (Value.slice A k c).ownBlock = some j) (fun _ e => e); have Hmap4 := Lib.hid ((Hmap.out.below ((Below.refl _ _).alloc (Nat.le_refl _) _)).turned ht4 (fun e => own_map Hown.out Hmap.out _ e rfl)); have Hb4 := Lib.hid ((Hbw.out.alloc Hbw.out.size _).trans (ht4.below (B := w.heap.size) (fun j e => (Hown.out.lt j e).1) (by have := Hbw.out.size; simp; omega))); obtain ⟨g4, o4, y4, e4, hy4, hc4⟩ := (S2.out.below Hb4.out).u16 (j := k) (by have := H2.out; omega); injection e4 with e4; injection e4 with e4 e4b _; subst e4; subst e4b; have e4c := Hy.out.symm.trans hy4; injection e4c with e4c; subst e4c; clear hown4 hg4 hr4 ht4 hy4)
          | (refine wpList_putF rfl (.tmp 40) (.tmp 41) (.tmp 46) rfl w.heap.size k f (k : Int) (y : Int) rfl rfl rfl Hmap4.out (by omega) (by omega) (by omega) ?_; intro w5 hmap5 ht5; have Hmap5 := Lib.hid hmap5; have Hown5 := Lib.hid (ht5.own Hown4.out (own_map Hown4.out Hmap4.out)); have Hb5 := Lib.hid (Hb4.out.trans (ht5.below (B := w.heap.size) (fun k e => by omega) Hb4.out.size)); obtain ⟨g5, o5, y5, e5, hy5, hc5⟩ := (S2.out.below Hb5.out).u16 (j := k) (by have := H2.out; omega); injection e5 with e5; injection e5 with e5 e5b _; subst e5; subst e5b; have e5c := Hy.out.symm.trans hy5; injection e5c with e5c; subst e5c; clear hmap5 ht5 hy5))
      go_roundw
      case rel => exact ⟨k + 1, A4, c4, _, min z (y : Int), by omega, by go_num, by first | trivial | rfl, by first | trivial | rfl, by omega, by have := Hown5.out; rwa [show numsV (upTo k) ++ [Value.int .i64 (k : Int)] = numsV (upTo (k + 1)) by rw [upTo_succ, numsV_append]; rfl] at this, Hmap5.out, has_more Hhas.out Hy.out, least_more Hleast.out Hy.out (by omega) (by omega), Hb5.out⟩
      case measure => simp [intOf]; omega
    · obtain rfl : k = K := by omega
      obtain ⟨V, rfl⟩ : ∃ V, V = wr := ⟨_, rfl⟩
      obtain ⟨at_, hat⟩ : ∃ at_, p.toNat % k = at_ := ⟨_, rfl⟩
      have hatk : at_ < k := by rw [← hat]; exact Nat.mod_lt _ (by omega)
      have e1 : Int.tmod p (k : Int) = (at_ : Int) := by
        rw [Int.tmod_eq_emod_of_nonneg p1, ← hat, Int.natCast_emod, Int.toNat_of_nonneg p1]
      have e2 : IntKind.i64.wrap p = p := by rw [IntKind.wrap_i64]; omega
      have e3 : IntKind.i64.wrap (at_ : Int) = (at_ : Int) := by rw [IntKind.wrap_i64]; omega
      have e6 : ¬ (k : Int) = 0 := by omega
      obtain ⟨y, hy⟩ : ∃ y, hv.getD at_ 0 = y := ⟨_, rfl⟩
      have hfy : f (at_ : Int) = (y : Int) := by rw [Hhas.out at_ hatk, hy]
      have hy6 : y < 65536 := by
        rw [← hy, List.getD_eq_getElem?_getD]
        have hl := H2.out
        rw [List.getElem?_eq_getElem (by omega)]
        exact I2.out _ (List.getElem_mem _)
      have e7 : IntKind.i64.wrap ((y : Int) + q) = (y : Int) + q := by rw [IntKind.wrap_i64]; omega
      have e8 : IntKind.i64.wrap q = q := by rw [IntKind.wrap_i64]; omega
      have HU := Lib.hid (rightUp k1 k7)
      have least : ∀ x ∈ (upTo k).map f, z ≤ x := fun x hx => by
        obtain ⟨j, hj, rfl⟩ := List.mem_map.1 hx
        obtain ⟨i, hi, rfl⟩ := mem_up hj
        rw [Hhas.out i hi]
        exact Hleast.out i hi
      have more : ∀ v, cntGe ((upTo k).map f) v ≤ cntGe ((upTo k).map (upd f (at_ : Int) ((y : Int) + q))) v := cnt_more fun x _ => by
        by_cases e : x = (at_ : Int)
        · subst e; rw [upd_same, hfy]; omega
        · rw [upd_other e]; omega
      have HLe := Lib.hid least; have HMo := Lib.hid more; have Hfy := Lib.hid hfy
      obtain ⟨M, hM⟩ : ∃ M, majQ k = M := ⟨_, rfl⟩
      have hM2 : M = k / 2 + 1 := by rw [← hM]; exact if_neg (by omega)
      have f1 : IntKind.i64.wrap (2 * (M : Int)) = 2 * (M : Int) := by rw [IntKind.wrap_i64]; omega
      have f2 : (k : Int) < 2 * (M : Int) := by omega
      have f3 : IntKind.i64.wrap ((M : Int) - 1) = (M : Int) - 1 := by rw [IntKind.wrap_i64]; omega
      have f4 : IntKind.i64.wrap (2 * ((M : Int) - 1)) = 2 * ((M : Int) - 1) := by rw [IntKind.wrap_i64]; omega
      have f5 : 2 * ((M : Int) - 1) ≤ (k : Int) := by omega
      have HM := Lib.hid hM
      clear hat least more hfy hy hM hM2
      go_upto_region 14 with (go_at_call 15; refine (Index_any A k c w.heap.size k (upTo k) f V (upTo_length k) (by unfold maxLen; omega) (.of_own Hown.out) Hmap.out).mono ?_; rintro e u1 ⟨v0, rfl, g1, g2, hb1⟩; have HI0 := Lib.hid (g1 HU.out); have hle : z ≤ v0 := idx_least (g1 HU.out) (by rw [List.length_map, upTo_length]; omega) HLe.out; have Hc1 := Lib.hid hb1; have Hm1 := Lib.hid (Hmap.out.below hb1); have Hr1 := Lib.hid (own_below Hown.out hb1); have Hb1 := Lib.hid (Hbw.out.trans (hb1.mono Hbw.out.size)); clear g1 g2 hb1)
      go_upto_region 16 with (first
        | (refine wpList_getF rfl (.tmp 63) (.tmp 64) rfl w.heap.size k f (at_ : Int) rfl rfl Hm1.out (by omega) (by omega) ?_; rw [Hfy.out])
        | (refine wpList_putF rfl (.tmp 61) (.tmp 62) (.tmp 68) rfl w.heap.size k f (at_ : Int) ((y : Int) + q) rfl rfl rfl Hm1.out (by omega) (by omega) (by omega) ?_; intro u2 hm2 ht2; have Hm2 := Lib.hid hm2; have Hr2 := Lib.hid (ht2.own Hr1.out (own_map Hr1.out Hm1.out)); have Hb2 := Lib.hid (Hb1.out.trans (ht2.below (B := w.heap.size) (fun k e => by omega) Hb1.out.size)); clear hm2 ht2))
      go_wp2_with (first
        | (go_at_call 7; refine (awake_any _).mono ?_; rintro e w9 ⟨rfl, hz⟩; have Hz := Lib.hid hz; clear hz)
        | (go_at_call 15; refine (Index_any A k c w.heap.size (k + 1) (upTo k) _ u2 (upTo_length k) (by unfold maxLen; omega) (.of_own Hr2.out) Hm2.out).mono ?_; rintro e u3 ⟨v1, rfl, g1, g2, hb3⟩; have hle2 : v0 ≤ v1 := idx_more HI0.out (g1 HU.out) (by rw [List.length_map, List.length_map]) HMo.out; have Hb3 := Lib.hid (Hb2.out.trans (hb3.mono Hb2.out.size)); clear g1 g2 hb3)
        | (go_at_call 21; refine (Majority_any k _ (by omega)).mono ?_; rintro e u4 ⟨rfl, rfl⟩; rw [HM.out]))
      go_ret
      exact ⟨rfl, Hb3.out.trans (Hz.out.mono Hb3.out.size)⟩

set_option maxRecDepth 100000 in
theorem walk (a : Int) (A2 : Option Addr) (n2 c2 : Nat) (hv : List Nat) (p q : Int) (w : World) (ha : (Lit.int .u8 a).wf = true) (h2 : hv.length = n2) (nc2 : n2 ≤ c2) (cm2 : c2 ≤ maxLen) (s2 : Seen w A2 (u16V hv)) (i2 : ∀ x ∈ hv, x < 65536) (hp : (Lit.int .u8 p).wf = true) (hq : (Lit.int .u8 q).wf = true) :
    Calls Try.prog 6 #[.int .u8 a, .slice A2 n2 c2, .int .u8 p, .int .u8 q] w fun e w' => e = .returned (.bool true) ∧ Below w.heap.size w w' := by
  simp [Lit.wf, IntKind.min, IntKind.max, IntKind.bits, IntKind.signed] at ha hp hq
  obtain ⟨r, hr⟩ : ∃ r, a.toNat % 7 = r := ⟨_, rfl⟩
  obtain ⟨K, hK⟩ : ∃ K, K = 1 + a.toNat % 7 := ⟨_, rfl⟩
  have e1 : Int.tmod a 7 = (r : Int) := by rw [Int.tmod_eq_emod_of_nonneg (by omega)]; omega
  have e2 : IntKind.i64.wrap a = a := by rw [IntKind.wrap_i64]; omega
  have e3 : IntKind.i64.wrap (r : Int) = (r : Int) := by rw [IntKind.wrap_i64]; omega
  have e4 : IntKind.i64.wrap (1 + (r : Int)) = 1 + (r : Int) := by rw [IntKind.wrap_i64]; omega
  by_cases m1 : K ≤ n2
  · by_cases m2 : n2 ≤ 20
    · exact walkIn a p q A2 n2 c2 K hv w (by omega) (by omega) (by omega) hK h2 s2 i2 m1 m2
    · have l1 : ¬ (n2 : Int) < 1 + (r : Int) := by omega
      have l2 : (20 : Int) < (n2 : Int) := by omega
      clear h2 s2 i2 hK hr ha hp hq
      go_enter Try.func6, Try.ntmps6
      go_wp2_with (go_at_call 7; refine (awake_any _).mono ?_; rintro e w9 ⟨rfl, hz⟩; have Hz := Lib.hid hz; clear hz)
      go_ret
      exact ⟨rfl, Hz.out⟩
  · have l1 : (n2 : Int) < 1 + (r : Int) := by omega
    clear h2 s2 i2 hK hr ha hp hq
    go_enter Try.func6, Try.ntmps6
    go_wp2_with (go_at_call 7; refine (awake_any _).mono ?_; rintro e w9 ⟨rfl, hz⟩; have Hz := Lib.hid hz; clear hz)
    go_ret
    exact ⟨rfl, Hz.out⟩

/-! ### THE ROW -/
theorem own : ownKnob Try.prog.godebug = none := by kernel_rfl

set_option maxRecDepth 100000 in
theorem lifted (os : Os) (started : os.Started) (H : Type) (enc : TypeId × Value → H) :
    ReturnsInHanded {} Try.checked os 6 .any (Rows.quorumRisesSpec.pre6 enc Try.prog Try.f6 Rows.quorumRisesRow.domain false) (Rows.quorumRisesSpec.post enc Try.prog Try.f6 false true false false) := by
  refine returnsInHanded_of_change (C := Try.checked) own started (by kernel_rfl) Try.func6
    (ChangeSpec.witness6 (enc := enc) (C := Try.checked) false ⟨#[], #[.int .u8 0, .slice none 0 0, .int .u8 0, .int .u8 0], []⟩ 8 (by kernel_rfl) (by kernel_rfl) (by kernel_rfl) (by kernel_rfl)) ?_
  intro W base args ds gs before hval0 hW hcnd _
  have hval : ∀ (j : Nat) t v, Try.f6.params[j]? = some t → args[j]? = some v → Value.okWide Try.prog W .any base t v := hval0
  have hW' := hW
  obtain ⟨p, q, hA0, hV, rfl, hfz, hnd⟩ := hW
  have hA : DataW.TrodAll enc Try.prog W 0 (fun _ => true) true Try.f6.params.toList args.toList ds p := hA0
  rw [Try.params6] at hA hval
  obtain ⟨v0, vs0, d0, ds0, p0, q0, hargs, rfl, rfl, h0, r0⟩ := trodAll_cons hA
  obtain ⟨v1, vs1, d1, ds1, p1, q1, rfl, rfl, rfl, h1, r1⟩ := trodAll_cons r0
  obtain ⟨v2, vs2, d2, ds2, p2, q2, rfl, rfl, rfl, h2, r2⟩ := trodAll_cons r1
  obtain ⟨v3, vs3, d3, ds3, p3, q3, rfl, rfl, rfl, h3, r3⟩ := trodAll_cons r2
  obtain ⟨rfl, rfl, rfl⟩ := trodAll_nil r3
  obtain rfl : args = #[v0, v1, v2, v3] := by cases args; simp_all
  obtain ⟨rfl, rfl⟩ := trodVars_none hV
  obtain ⟨a0, rfl, rfl, rfl, w0⟩ := open_int Try.underlying5 (hval 0 5 v0 rfl rfl) h0
  obtain ⟨A1, n1, c1, us1, rfl, hn1, hnc1, hcm1, hs1, hu1⟩ := open_u16s Try.underlying42 Try.underlying43 (by kernel_rfl) (hval 1 42 v1 rfl rfl) h1
  obtain ⟨a2, rfl, rfl, rfl, w2⟩ := open_int Try.underlying5 (hval 2 5 v2 rfl rfl) h2
  obtain ⟨a3, rfl, rfl, rfl, w3⟩ := open_int Try.underlying5 (hval 3 5 v3 rfl rfl) h3
  refine (walk a0 A1 n1 c1 us1 a2 a3 W w0 hn1 hnc1 hcm1 hs1 hu1 w2 w3).mono fun e W' ⟨he, hg⟩ => ?_
  subst he
  exact ⟨_, rfl, law_post hW' rfl (by kernel_rfl) (by kernel_rfl) (by kernel_rfl) Try.underlying4 rfl rfl rfl hg⟩

theorem over : Rows.quorumRisesRow.holds Try.pinned (OpenSpec.ofChange Rows.quorumRisesSpec) :=
  OpenClaim.holds_of_wide 6 Try.f6 rfl rfl rfl rfl rfl rfl rfl ⟨rfl, rfl, rfl, rfl, rfl⟩ rfl rfl rfl rfl rfl (by kernel_rfl) Try.func6 (by kernel_rfl)
    (of_decide_eq_true (by kernel_rfl)) (by unfold Func.isWrapper; first | (rw [if_pos (by decide +kernel)]; kernel_rfl) | (rw [if_neg (by decide +kernel)]; exact ⟨rfl, rfl⟩))
    (fun os started H enc _ => lifted os started H enc)

theorem proved : Rows.QuorumRisesSaid :=
  over
#print axioms proved

end Go.Proofs.Ytpoooehnobfjfaa.QuorumRises
