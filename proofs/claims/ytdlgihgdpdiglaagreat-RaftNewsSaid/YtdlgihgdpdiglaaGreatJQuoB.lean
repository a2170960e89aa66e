/-
  Joined: QuoIdx, QuoWon. Conditions: each theorem's own.
-/
import Derived.Test.YtdlgihgdpdiglaaGreatJQuoA
import Derived.Test.YtdlgihgdpdiglaaGreatJWords
import Derived.Maps.OwnOps
import Derived.Laws.OwnMore

section
namespace Go.Proofs.YtdlgihgdpdiglaaGreat.quo
open Go.ChangeShapes Go.WideShapes Go.ChangeAt Go.RowKit
set_option linter.unusedVariables false

theorem int_info : (Tryz.prog.info? 3).map (fun i => (i.zero, i.size, i.bytes)) = some (some (.int .i64 0), 1, 8) := by kernel_rfl

/-! ### a row of numbers that is filled one by one -/
def NRow (w : World) (b cnt : Nat) (Z : List Int) : Prop := ∃ rest : List Value, w.heap[b]? = some (.cells (numsV Z ++ rest).toArray 3 (0, 0)) ∧ rest.length = cnt - Z.length
theorem NRow.below {w w' : World} {b cnt : Nat} {Z : List Int} (h : NRow w b cnt Z) (hb : Below w.heap.size w w') : NRow w' b cnt Z := by
  obtain ⟨rest, h1, h2⟩ := h
  exact ⟨rest, (hb.block b (Array.getElem?_eq_some_iff.1 h1).1).trans h1, h2⟩
theorem NRow.turned {p : Nat → Prop} {w w' : World} {b cnt : Nat} {Z : List Int} (h : NRow w b cnt Z) (ht : Turned p w w') (hp : ¬ p b) : NRow w' b cnt Z := by
  obtain ⟨rest, h1, h2⟩ := h
  exact ⟨rest, ht.heap h1 hp, h2⟩
theorem NRow.lt {w : World} {b cnt : Nat} {Z : List Int} (h : NRow w b cnt Z) : b < w.heap.size := by
  obtain ⟨rest, h1, h2⟩ := h
  exact (Array.getElem?_eq_some_iff.1 h1).1
/-- where the next one goes -/
theorem NRow.next {w : World} {b cnt j : Nat} {Z : List Int} (h : NRow w b cnt Z) (hj : Z.length = j) (hlt : j < cnt) :
    (∃ v, w.cell? ⟨b, j, none⟩ = some v) ∧ w.frozen? ⟨b, j, none⟩ = false ∧ ∀ x, NRow (w.setCell ⟨b, j, none⟩ (.int .i64 x)) b cnt (Z ++ [x]) := by
  obtain ⟨rest, h1, h2⟩ := h
  subst hj
  match rest, h2 with
  | [], h2 => simp at h2; omega
  | a :: rest, h2 =>
    refine ⟨⟨a, ?_⟩, row_frozen h1 _, fun x => ⟨rest, ?_, ?_⟩⟩
    · rw [row_cell h1]
      simp [numsV]
    · have := row_set h1 Z.length (.int .i64 x)
      rw [this]
      congr 2
      apply Array.ext'
      simp [numsV]
    · rw [List.length_append, List.length_singleton]
      rw [List.length_cons] at h2
      omega
theorem NRow.made {w : World} {base b n : Nat} (h : w.ownsRow base 3 1 (.slice (some ⟨b, 0, none⟩) n n) n (madeCells (Value.int .i64 0).cells (n * 1)).toList) : NRow w b n [] := by
  have hl : (madeCells (Value.int .i64 0).cells (n * 1)).toList.length = n * 1 := by rw [Array.length_toList, size_madeCells]
  exact ⟨_, made_blk h hl, by rw [hl]; simp⟩
/-- the row, when it is full -/
theorem NRow.full {w : World} {B b cnt : Nat} {Z : List Int} (h : NRow w b cnt Z) (hz : Z.length = cnt) (hb : B ≤ b) (hl : cnt ≤ 1000000) : w.ownsRow B 3 1 (.slice (some ⟨b, 0, none⟩) cnt cnt) cnt (numsV Z) := by
  obtain ⟨rest, h1, h2⟩ := h
  subst hz
  rw [Nat.sub_self] at h2
  have := List.length_eq_zero_iff.1 h2
  subst this
  rw [List.append_nil] at h1
  refine ⟨by rw [numsV_length]; omega, .inr ⟨b, _, _, rfl, hb, h1, Nat.le_refl _, by unfold maxLen; omega, by simp [numsV_length], ?_⟩⟩
  simp only
  exact List.take_of_length_le (by rw [numsV_length]; omega)
theorem own_num {w : World} {B n c g j : Nat} {xs : List Int} (h : w.ownsRow B 3 1 (.slice (some ⟨g, 0, none⟩) n c) n (numsV xs)) (hj : j < xs.length) : ∃ x, xs[j]? = some x ∧ w.cell? ⟨g, j, none⟩ = some (.int .i64 x) := by
  obtain ⟨g', o, x, e, hx, hc⟩ := (Seen.of_own h).num hj
  injection e with e
  injection e with e1 e2 _
  subst e1; subst e2
  rw [Nat.zero_add] at hc
  exact ⟨x, hx, hc⟩
theorem own_capI {w : World} {base n c : Nat} {A : Option Addr} {e : TypeId} {xs : List Value} (h : w.ownsRow base e 1 (.slice A n c) n xs) : n ≤ c ∧ c ≤ maxLen := by
  rcases h.2 with ⟨hv, _⟩ | ⟨g', cap, cur, hv, _, _, h1, h2, _⟩
  · injection hv with _ h2 h3
    subst h2; subst h3
    exact ⟨Nat.le_refl _, Nat.zero_le _⟩
  · injection hv with _ _ h3
    subst h3
    exact ⟨h1, h2⟩

theorem idx_of_sort {vs : List Int} {k : Nat} {x : Int} (hk : k + (vs.length / 2 + 1) = vs.length) (hx : (vs.mergeSort fun a b => decide (a ≤ b))[k]? = some x) : IsIdx vs x := by
  have hs : (vs.mergeSort fun a b => decide (a ≤ b)).Pairwise (· ≤ ·) := by
    have := List.pairwise_mergeSort (le := fun a b : Int => decide (a ≤ b)) (by intro a b c h1 h2; simp at *; omega) (by intro a b; simp; omega) vs
    exact this.imp fun h => by simpa using h
  have hl := List.length_mergeSort (le := fun a b : Int => decide (a ≤ b)) vs
  exact (idx_sorted hs (by rw [hl]; exact hk) hx).perm (List.mergeSort_perm _ _)

/-- what Index hands back -/
def IdxRet (us : List Int) (f : Int → Int) (w : World) (e : Ending) (w' : World) : Prop :=
  ∃ v, e = .returned (.int .i64 v) ∧ (RightQ us → IsIdx (us.map f) v) ∧ (¬ RightQ us → v = 0) ∧ Below w.heap.size w w'

set_option maxRecDepth 100000 in
set_option maxHeartbeats 2000000 in
theorem Index_any (A : Option Addr) (n c b N : Nat) (us : List Int) (f : Int → Int) (w : World) (hn : us.length = n) (hm : n ≤ maxLen) (hs : Seen w A (numsV us)) (hf : MapF w b N f) :
    Calls Tryz.prog 146 #[.slice A n c, .map (some b)] w (IdxRet us f w) := by
  have KR := Lib.hid (Right_any A n c us w hn hm hs)
  by_cases hr : RightQ us
  · have Hr := Lib.hid hr
    have Hs := Lib.hid hs
    have Hn := Lib.hid hn
    have Hf := Lib.hid hf
    have h7 : 1 ≤ n ∧ n ≤ 7 := by rw [← hn]; exact hr.1
    obtain ⟨h1, h7⟩ := h7
    have hblt := hf.lt
    have Hblt := Lib.hid hblt
    obtain ⟨i0, hi0, hz0, hz1, hz2⟩ := info_parts int_info
    have HI := Lib.hid (And.intro hi0 (And.intro hz0 (And.intro hz1 hz2)))
    clear hr hs hn hf hblt hm hi0 hz0 hz1 hz2
    go_enter Tryz.func146, Tryz.ntmps146
    go_wp2_with (first
      | (go_at_call 33; refine KR.out.mono ?_; rintro e w1 ⟨rfl, rfl⟩; rw [show decide (RightQ us) = true from decide_eq_true Hr.out])
      | (at_make; go_loud (refine wpList_make_full _ rfl (.tmp 12) (.tmp 12) _ rfl w1.heap.size 3 i0 _ 1 Tryz.underlying22 HI.out.1 HI.out.2.1 HI.out.2.2.1 .i64 .i64 _ _ n rfl rfl rfl rfl (by rw [HI.out.2.2.2]; omega) (by unfold maxLen; omega) (Nat.le_refl _) ?_; intro w2 hown2 hg2; have Hr2 := Lib.hid (NRow.made hown2); have Hb2 := Lib.hid ((Below.refl w1.heap.size w1).grown hg2 (Nat.le_refl _) (by simp)); clear hown2 hg2)))
    obtain ⟨B, hB⟩ : ∃ B, w1.heap.size = B := ⟨_, rfl⟩
    have HB := Lib.hid hB
    rw [hB] at Hr2 Hb2 Hblt ⊢
    clear hB
    go_loopw [16] (fun i wr => ∃ k : Nat, k ≤ n ∧ i = .int .i64 k ∧ NRow wr B n ((us.take k).map f) ∧ Below B w1 wr) (fun i _ => n - (intOf i).toNat)
    case atStart => exact ⟨0, by omega, rfl, by simpa using Hr2.out, Hb2.out⟩
    case round =>
      obtain ⟨k, hk, rfl, hrow, hbw⟩ := hrel
      have Hrow := Lib.hid hrow; have Hbw := Lib.hid hbw
      clear hrow hbw
      have hbB : Below w1.heap.size w1 wr := by rw [HB.out]; exact Hbw.out
      have HbB := Lib.hid hbB
      clear hbB
      have hzl : ((us.take k).map f).length = k := by simp; have := Hn.out; omega
      have Hzl := Lib.hid hzl
      clear hzl
      by_cases hlt : k < n
      · obtain ⟨g, o, x, rfl, hx, hc⟩ := (Hs.out.below HbB.out).num (j := k) (by have := Hn.out; omega)
        have hin := Hr.out.2.1 x (List.mem_of_getElem? hx)
        have Hx := Lib.hid hx; clear hx
        have Hin := Lib.hid hin; clear hin
        have Hfr := Lib.hid (Hf.out.below HbB.out)
        obtain ⟨⟨v0, hv0⟩, hz0, hput⟩ := Hrow.out.next Hzl.out hlt
        have Hput := Lib.hid (hput (f x)); clear hput
        have hlr := Hrow.out.lt
        have b0 : (0 : Int) ≤ (k : Int) := by omega
        have b1 : (k : Int) < (n : Int) := by omega
        go_wp2_with (refine wpList_getF rfl (.tmp 23) (.tmp 24) rfl b N f x rfl rfl Hfr.out (by have := Hin.out; unfold InQ at this; omega) (by have := Hin.out; unfold InQ at this; omega) ?_)
        go_roundw
        case rel => exact ⟨k + 1, by omega, by go_num, by rw [take_snoc Hx.out, List.map_append]; exact Hput.out, Hbw.out.trans ((Turned.setCell (Turned.refl (fun k => k = B) wr) (b := ⟨B, k, none⟩) (fun _ => rfl) _).below (fun k e => by omega) (Nat.le_of_lt hlr))⟩
        case measure => simp [intOf]; omega
      · obtain rfl : k = n := by omega
        have hall : us.take k = us := List.take_of_length_le (by have := Hn.out; omega)
        have Hall := Lib.hid hall
        clear hall
        have hown : wr.ownsRow B 3 1 (.slice (some ⟨B, 0, none⟩) k k) k (numsV (us.map f)) := by
          have := Hrow.out.full (B := B) Hzl.out (Nat.le_refl _) (by omega)
          rwa [Hall.out] at this
        have KS := Lib.hid (ISort_any B B k k _ wr (by omega) hown)
        have hsl : ((us.map f).mergeSort fun a b => decide (a ≤ b)).length = k := by rw [List.length_mergeSort, List.length_map]; exact Hn.out
        have Hsl := Lib.hid hsl
        obtain ⟨M, hM⟩ : ∃ M, k / 2 + 1 = M := ⟨_, rfl⟩
        obtain ⟨K, hK⟩ : ∃ K, K + M = k := ⟨k - M, by omega⟩
        have hmj : majQ k = M := (if_neg (by omega)).trans hM
        have Hmj := Lib.hid hmj
        have s1 : IntKind.i64.wrap ((k : Int) - (M : Int)) = (K : Int) := by rw [IntKind.wrap_i64]; omega
        have HM := Lib.hid hM
        have b0 : (0 : Int) ≤ (K : Int) := by omega
        have b1 : (K : Int) < (k : Int) := by omega
        have HK := Lib.hid hK
        clear hown hsl hmj hK hM
        go_wp2_with (first
          | (go_at_call 198; refine KS.out.mono ?_; rintro e w3 ⟨rfl, hown3, ht3⟩; have Hown3 := Lib.hid hown3; have Hb3 := Lib.hid (Hbw.out.trans (ht3.below (B := B) (fun k e => by omega) (Nat.le_of_lt Hrow.out.lt))); obtain ⟨y, hy, hcy⟩ := own_num hown3 (j := K) (by have := Hsl.out; omega); have Hy := Lib.hid hy; clear hown3 ht3 hy)
          | (go_at_call 199; refine (Majority_any k _ (by omega)).mono ?_; rintro e w4 ⟨rfl, rfl⟩; rw [Hmj.out]))
        go_ret
        refine ⟨y, rfl, fun _ => idx_of_sort (k := K) ?_ Hy.out, fun h => absurd Hr.out h, by rw [HB.out]; exact Hb3.out⟩
        have := Hn.out
        rw [List.length_map, this, HM.out]
        exact HK.out
  · have Hr := Lib.hid hr
    clear hr hs hn hf
    go_enter Tryz.func146, Tryz.ntmps146
    go_wp2_with (go_at_call 33; refine KR.out.mono ?_; rintro e w1 ⟨rfl, rfl⟩; rw [show decide (RightQ us) = false from decide_eq_false Hr.out])
    go_ret
    exact ⟨0, rfl, fun h => absurd h Hr.out, fun _ => rfl, Below.refl _ _⟩
end Go.Proofs.YtdlgihgdpdiglaaGreat.quo
end

section
namespace Go.Proofs.YtdlgihgdpdiglaaGreat.quo
open Go.ChangeShapes Go.WideShapes Go.ChangeAt Go.RowKit
set_option linter.unusedVariables false

theorem said_more {ys : List Int} {k : Nat} {x : Int} (hx : ys[k]? = some x) (hi : InQ x) (j : Int) : saidF (ys.take (k + 1)) j = upd (saidF (ys.take k)) x 1 j := by
  rw [take_snoc hx]
  unfold saidF upd
  by_cases e : j = x
  · subst e
    simp [hi]
  · simp [e]
theorem said_same {ys : List Int} {k : Nat} {x : Int} (hx : ys[k]? = some x) (hi : ¬ InQ x) (j : Int) : saidF (ys.take (k + 1)) j = saidF (ys.take k) j := by
  rw [take_snoc hx]
  unfold saidF
  by_cases e : j = x
  · subst e
    simp [hi]
  · simp [e]

set_option maxRecDepth 100000 in
set_option maxHeartbeats 2000000 in
theorem Won_any (A C : Option Addr) (n c m d : Nat) (us ys : List Int) (w : World) (hn : us.length = n) (hnm : n ≤ maxLen) (hs : Seen w A (numsV us)) (hm : ys.length = m) (hl : m ≤ 1000000) (hy : Seen w C (numsV ys)) (hi : ∀ x ∈ ys, In64 x) :
    Calls Tryz.prog 182 #[.slice A n c, .slice C m d] w fun e w' => e = .returned (.bool (wonQ us ys)) ∧ Below w.heap.size w w' := by
  have Hs := Lib.hid hs
  have Hy := Lib.hid hy
  have Hm := Lib.hid hm
  have Hn := Lib.hid hn
  have Hi := Lib.hid hi
  have Hnm := Lib.hid hnm
  have hmm := @run_makeMap Tryz.prog
  obtain ⟨W2, hW2⟩ : ∃ W2, w.alloc (.map #[] 0) = W2 := ⟨_, rfl⟩
  have hmap : MapF W2 w.heap.size 0 (fun _ => 0) := by rw [← hW2]; exact MapF.made w
  have hb2 : Below w.heap.size w W2 := by rw [← hW2]; exact (Below.refl _ _).alloc (Nat.le_refl _) _
  have Hmap := Lib.hid hmap
  have Hb2 := Lib.hid hb2
  clear hmap hb2 hs hy hm hn hi hnm
  go_enter Tryz.func182, Tryz.ntmps182
  go_wp2
  clear hW2 hmm
  go_loopw [11] (fun i wr => ∃ k : Nat, k ≤ m ∧ i = .int .i64 k ∧ MapF wr w.heap.size k (saidF (ys.take k)) ∧ Below w.heap.size w wr) (fun i _ => m - (intOf i).toNat)
  case atStart => exact ⟨0, by omega, rfl, Hmap.out.of_eq fun k => by simp [saidF], Hb2.out⟩
  case round =>
    obtain ⟨k, hk, rfl, hmap, hbw⟩ := hrel
    have Hmap := Lib.hid hmap; have Hbw := Lib.hid hbw
    clear hmap hbw
    by_cases hlt : k < m
    · obtain ⟨g, o, x, rfl, hx, hc⟩ := (Hy.out.below Hbw.out).num (j := k) (by have := Hm.out; omega)
      have hin := Hi.out x (List.mem_of_getElem? hx)
      have Hx := Lib.hid hx; clear hx
      have Hin := Lib.hid hin; clear hin
      have b0 : (0 : Int) ≤ (k : Int) := by omega
      have b1 : (k : Int) < (m : Int) := by omega
      by_cases hq : InQ x
      · have Hq := Lib.hid hq; clear hq
        go_wp2_with (first
          | (go_at_call 70; refine (isId_any x _).mono ?_; rintro e w1 ⟨rfl, rfl⟩; rw [show decide (InQ x) = true from decide_eq_true Hq.out])
          | (refine wpList_putF rfl (.tmp 17) (.tmp 18) _ rfl w.heap.size k (saidF (ys.take k)) x 1 rfl rfl rfl Hmap.out Hin.out.1 Hin.out.2 (by omega) ?_; intro w2 hmap2 ht2; have Hmap2 := Lib.hid hmap2; have Ht2 := Lib.hid ht2; clear hmap2 ht2))
        go_roundw
        case rel => exact ⟨k + 1, by omega, by go_num, Hmap2.out.of_eq (said_more Hx.out Hq.out), Hbw.out.trans (Ht2.out.below (fun k e => by omega) (Nat.le_of_lt Hmap.out.lt))⟩
        case measure => simp [intOf]; omega
      · have Hq := Lib.hid hq; clear hq
        go_wp2_with (go_at_call 70; refine (isId_any x _).mono ?_; rintro e w1 ⟨rfl, rfl⟩; rw [show decide (InQ x) = false from decide_eq_false Hq.out])
        go_roundw
        case rel => exact ⟨k + 1, by omega, by go_num, (Hmap.out.mono (Nat.le_succ _)).of_eq (said_same Hx.out Hq.out), Hbw.out⟩
        case measure => simp [intOf]; omega
    · obtain rfl : k = m := by omega
      have hall : ys.take k = ys := List.take_of_length_le (by have := Hm.out; omega)
      have Hall := Lib.hid hall
      clear hall
      have KI := Lib.hid (Index_any A n c w.heap.size k us (saidF (ys.take k)) wr Hn.out Hnm.out (Hs.out.below Hbw.out) Hmap.out)
      rw [Hall.out] at KI
      by_cases hr : RightQ us
      · have Hr := Lib.hid hr; clear hr
        obtain ⟨b, hb⟩ : ∃ b, wonQ us ys = b := ⟨_, rfl⟩
        have Hwb := Lib.hid hb
        clear hb
        cases b with
        | true =>
          go_wp2_with (go_at_call 146; go_loud (refine KI.out.mono ?_; rintro e w3 ⟨v, rfl, h1, h2, hb3⟩; have hv := (said_won Hr.out (h1 Hr.out)).trans Hwb.out; obtain rfl : v = 1 := (by simpa using hv); have Hb3 := Lib.hid hb3; clear h1 h2 hb3 hv))
          go_ret
          exact ⟨bool_ret' Hwb.out.symm, Hbw.out.trans (Hb3.out.mono Hbw.out.size)⟩
        | false =>
          go_wp2_with (go_at_call 146; refine KI.out.mono ?_; rintro e w3 ⟨v, rfl, h1, h2, hb3⟩; have hv := (said_won Hr.out (h1 Hr.out)).trans Hwb.out; have hv : (v == 1) = false := (by simpa using hv); have Hb3 := Lib.hid hb3; clear h1 h2 hb3 hv)
          go_ret
          exact ⟨bool_ret' (hv.trans Hwb.out.symm), Hbw.out.trans (Hb3.out.mono Hbw.out.size)⟩
      · have hw : wonQ us ys = false := decide_eq_false fun h => hr h.1
        have Hw := Lib.hid hw
        have Hr := Lib.hid hr; clear hr hw
        go_wp2_with (go_at_call 146; refine KI.out.mono ?_; rintro e w3 ⟨v, rfl, h1, h2, hb3⟩; obtain rfl := h2 Hr.out; have Hb3 := Lib.hid hb3; clear h1 h2 hb3)
        go_ret
        exact ⟨bool_ret' Hw.out.symm, Hbw.out.trans (Hb3.out.mono Hbw.out.size)⟩
end Go.Proofs.YtdlgihgdpdiglaaGreat.quo
end
