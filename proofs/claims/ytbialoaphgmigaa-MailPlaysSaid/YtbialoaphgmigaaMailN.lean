/-
  Contracts of mail's Next. Conditions: what each names.
-/
import Derived.Test.YtbialoaphgmigaaMailP
import Derived.LoopTactic
namespace Go.Proofs.Ytbialoaphgmigaa
open Go.ChangeShapes Go.WideShapes Go.ChangeAt Go.RowKit Go.Conc
set_option linter.unusedVariables false

theorem results_cell_3 {P : Program} {fn : Func} {p u v : Tmp} {ty : TypeId} (h : fn.results = #[.cell p ty, .tmp u, .tmp v]) (tmps : Array Value) (w : World) (g : Nat) (t : TypeId) (cs : Array Value) (fr : Nat × Nat) (d : TypeDesc) (b e : Value)
    (hp : tmps.getD p undef = .pointer (some ⟨g, 0, none⟩)) (hb : tmps.getD u undef = b) (he : tmps.getD v undef = e) (hg : w.heap[g]? = some (.cells cs t fr))
    (hu : P.underlying ty = some d) (hd : (match d with | .struct _ | .array _ _ => true | _ => false) = true) (hi : (P.info? ty).map (·.size) = some cs.size) :
    (results fn tmps).run P w = .ok (.tuple #[.agg cs, b, e]) w := by
  have hp' : tmps[p]?.getD undef = .pointer (some ⟨g, 0, none⟩) := by simpa using hp
  have hb' : tmps[u]?.getD undef = b := by simpa using hb
  have he' : tmps[v]?.getD undef = e := by simpa using he
  simp [results, h, hp', hb', he', asAddr, run_loadVar_row w g t ty cs fr d hg hu hd hi]

set_option maxRecDepth 100000 in
theorem Next_none (g room : Nat) (c : Nat → Nat) (q : Nat → List Value) (w : World) (h : IsB w g c room q) (he : ∀ k, k < 3 → q k = []) :
    Calls Try.prog 11 #[.pointer (some ⟨g, 0, none⟩)] w fun e w' => e = .returned (.tuple #[zeroL, .int .i64 0, .bool false]) ∧ Below w.heap.size w w' := by
  obtain ⟨i, hi, hz⟩ := letter_info
  obtain ⟨w1, hw1, hb1, hh1⟩ : ∃ w1, w.alloc (.cells #[.int .i64 0, .int .i64 0, .slice none 0 0] 29) = w1 ∧ Below w.heap.size w w1 ∧ w1.heap[w.heap.size]? = some (.cells #[.int .i64 0, .int .i64 0, .slice none 0 0] 29 (0, 0)) :=
    ⟨_, rfl, (Below.refl _ _).alloc (Nat.le_refl _) _, heap_alloc_new _ _⟩
  have H := Lib.hid (h.below hb1)
  have Hh1 := Lib.hid hh1; have Hb1 := Lib.hid hb1; have He := Lib.hid he
  have Hi := Lib.hid (And.intro hi hz)
  clear h hh1 hb1 he hi hz
  go_enter Try.func11, Try.ntmps11
  go_wp2
  go_loopw [3, 5] (fun kv iv wr => ∃ k : Nat, k ≤ 3 ∧ iv = .int .i64 (k : Int) ∧ wr = w1) (fun _ iv _ => 3 - (intOf iv).toNat)
  case atStart => exact ⟨0, by omega, rfl, rfl⟩
  case round =>
    obtain ⟨k, hk, rfl, rfl⟩ := hrel
    by_cases hlt : k < 3
    · have hcell := H.out.cell hlt
      have k0 : (0 : Int) ≤ (k : Int) := by omega
      have k1 : (k : Int) < 3 := by omega
      go_upto_region 5 with fail
      obtain ⟨s, r, hch⟩ := H.out.ch k hlt
      rw [He.out k hlt] at hch
      refine wp_sel_recv_none (c := c k) rfl rfl rfl Hi.out.1 Hi.out.2 hch ?_
      clear hch hcell
      go_wp2
      go_roundw
      case rel => exact ⟨k + 1, by omega, by go_num, trivial⟩
      case measure => simp [intOf]; omega
    · have k1 : ¬ (k : Int) < 3 := by omega
      go_wp2_with (refine wpList_store_row rfl 29 (.tmp 2) (.tmp 21) rfl w.heap.size #[.int .i64 0, .int .i64 0, .slice none 0 0] rfl rfl 29 _ Hh1.out letter_size rfl (by simp [Value.oneCell']) ?_)
      refine bodyPost_ret (v := .tuple #[zeroL, .int .i64 0, .bool false]) (results_cell_3 rfl _ _ w.heap.size 29 #[.int .i64 0, .int .i64 0, .slice none 0 0] (0, 0) _ (.int .i64 0) (.bool false) rfl rfl rfl (setRow_heap _ w.heap.size _ _ _ (0, 0) Hh1.out) Try.underlying29 rfl letter_size) rfl ?_
      exact ⟨rfl, Hb1.out.trans ⟨rfl, rfl, rfl, by simp, fun q hq => setRow_other _ w.heap.size q _ (by omega)⟩⟩

set_option maxRecDepth 100000 in
theorem Next_some (g room : Nat) (c : Nat → Nat) (q : Nat → List Value) (m : Nat) (f t : Int) (A : Option Addr) (n cp : Nat) (rest : List Value) (w : World) (h : IsB w g c room q) (hm : m < 3) (he : ∀ k, k < m → q k = []) (hq : q m = letV f t A n cp :: rest) :
    Calls Try.prog 11 #[.pointer (some ⟨g, 0, none⟩)] w fun e w' => e = .returned (.tuple #[letV f t A n cp, .int .i64 (m : Int), .bool true]) ∧ IsB w' g c room (fun j => if j = m then rest else q j) ∧ Turned (fun j => j = c m) w w' := by
  obtain ⟨i, hi, hz⟩ := letter_info
  obtain ⟨w1, hw1, hb1, hh1⟩ : ∃ w1, w.alloc (.cells #[.int .i64 0, .int .i64 0, .slice none 0 0] 29) = w1 ∧ Below w.heap.size w w1 ∧ w1.heap[w.heap.size]? = some (.cells #[.int .i64 0, .int .i64 0, .slice none 0 0] 29 (0, 0)) :=
    ⟨_, rfl, (Below.refl _ _).alloc (Nat.le_refl _) _, heap_alloc_new _ _⟩
  have H := Lib.hid (h.below hb1)
  have Hlt := Lib.hid h.lt
  have Hclt := Lib.hid (show ∀ j, j < 3 → c j < w.heap.size from fun j hj => h.clt hj)
  have Hh1 := Lib.hid hh1; have Hb1 := Lib.hid hb1; have He := Lib.hid he; have Hq := Lib.hid hq
  have Hi := Lib.hid (And.intro hi hz)
  clear h hh1 hb1 he hi hz hq
  unfold letV
  go_enter Try.func11, Try.ntmps11
  go_wp2
  go_loopw [3, 5] (fun kv iv wr => ∃ k : Nat, k ≤ m ∧ iv = .int .i64 (k : Int) ∧ wr = w1) (fun _ iv _ => 3 - (intOf iv).toNat)
  case atStart => exact ⟨0, by omega, rfl, rfl⟩
  case round =>
    obtain ⟨k, hk, rfl, rfl⟩ := hrel
    have hcell := H.out.cell (k := k) (by omega)
    have k0 : (0 : Int) ≤ (k : Int) := by omega
    have k1 : (k : Int) < 3 := by omega
    go_upto_region 5 with fail
    obtain ⟨s, r, hch⟩ := H.out.ch k (by omega)
    by_cases hlt : k < m
    · rw [He.out k hlt] at hch
      refine wp_sel_recv_none (c := c k) rfl rfl rfl Hi.out.1 Hi.out.2 hch ?_
      clear hch hcell
      go_wp2
      go_roundw
      case rel => exact ⟨k + 1, by omega, by go_num, trivial⟩
      case measure => simp [intOf]; omega
    · obtain rfl : k = m := by omega
      rw [Hq.out] at hch
      refine wp_sel_recv (c := c k) (v := .agg #[.int .i64 f, .int .i64 t, .slice A n cp]) rfl rfl rfl Hi.out.1 Hi.out.2 hch rfl ?_
      have hset := H.out.set hm rest s (r + 1)
      have ht : Turned (fun j => j = c k) wr (wr.setChan (c k) room ((letV f t A n cp :: rest).toArray.extract 1 (letV f t A n cp :: rest).toArray.size) false s (r + 1) false) := Turned.setChan (p := fun j => j = c k) (Turned.refl _ _) (fun _ => rfl) _ _ _ _ _ _
      rw [show rest.toArray = (letV f t A n cp :: rest).toArray.extract 1 (letV f t A n cp :: rest).toArray.size by simp] at hset
      generalize wr.setChan (c k) room ((letV f t A n cp :: rest).toArray.extract 1 (letV f t A n cp :: rest).toArray.size) false s (r + 1) false = w4 at hset ht ⊢
      have Hh4 := Lib.hid (ht.heap Hh1.out (fun e => by have := Hclt.out k hm; omega))
      have Hset := Lib.hid hset; have Ht := Lib.hid ht
      clear hch hcell hset ht
      go_wp2_with (first
        | (refine wpList_store_row rfl 29 (.tmp 2) (.tmp 17) rfl w.heap.size #[.int .i64 f, .int .i64 t, .slice A n cp] rfl rfl 29 _ Hh4.out letter_size rfl (by simp [Value.oneCell']) ?_; have Hh5 := Lib.hid (setRow_heap _ w.heap.size _ _ _ (0, 0) Hh4.out : (w4.setRow w.heap.size #[.int .i64 f, .int .i64 t, .slice A n cp]).heap[w.heap.size]? = some (.cells #[.int .i64 f, .int .i64 t, .slice A n cp] 29 (0, 0))); have Hb5 := Lib.hid (show Below w.heap.size w4 (w4.setRow w.heap.size #[.int .i64 f, .int .i64 t, .slice A n cp]) from ⟨rfl, rfl, rfl, by simp, fun q hq => setRow_other _ w.heap.size q _ (by omega)⟩); generalize w4.setRow w.heap.size #[.int .i64 f, .int .i64 t, .slice A n cp] = w5 at Hh5 Hb5 ⊢)
        | (refine wpList_load_row rfl 29 (.tmp 2) rfl w.heap.size rfl 29 #[.int .i64 f, .int .i64 t, .slice A n cp] (0, 0) _ Hh5.out Try.underlying29 rfl letter_size ?_)
        | (refine wpList_store_row rfl 29 (.tmp 2) (.tmp 18) rfl w.heap.size #[.int .i64 f, .int .i64 t, .slice A n cp] rfl rfl 29 _ Hh5.out letter_size rfl (by simp [Value.oneCell']) ?_))
      refine bodyPost_ret (v := .tuple #[.agg #[.int .i64 f, .int .i64 t, .slice A n cp], .int .i64 (k : Int), .bool true]) (results_cell_3 rfl _ _ w.heap.size 29 #[.int .i64 f, .int .i64 t, .slice A n cp] (0, 0) _ (.int .i64 (k : Int)) (.bool true) rfl rfl rfl (setRow_heap _ w.heap.size _ _ _ (0, 0) Hh5.out) Try.underlying29 rfl letter_size) rfl ?_
      have hb6 : Below w.heap.size w4 (w5.setRow w.heap.size #[.int .i64 f, .int .i64 t, .slice A n cp]) := Hb5.out.trans ⟨rfl, rfl, rfl, by simp, fun q hq => setRow_other _ w.heap.size q _ (by omega)⟩
      have ht6 : Turned (fun j => w.heap.size ≤ j) w4 (w5.setRow w.heap.size #[.int .i64 f, .int .i64 t, .slice A n cp]) := ⟨hb6.os, hb6.tape, hb6.output, hb6.size, fun j hj hn => hb6.block j (by omega)⟩
      refine ⟨rfl, Hset.out.turned ht6 (by have := Hlt.out; omega) (fun j hj => ?_), ?_⟩
      · have := Hclt.out j hj; omega
      · exact ((Turned.of_below Hb1.out : Turned (fun j => j = c k) w wr).trans Ht.out (fun _ e => e) (fun _ _ e => e)).trans ht6 (fun _ e => e) (fun j hj e => by omega)
end Go.Proofs.Ytbialoaphgmigaa
