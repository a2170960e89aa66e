/-
  Contracts of the device's settle, Flush, Boot. Conditions: a device; numbers that lie apart from its sure bytes.
-/
import Derived.Test.YtjekcaoonaniaaaGreatSecD
import Derived.Laws.CopyOwn
import Derived.StillTailTactics
namespace Go.Proofs.YtjekcaoonaniaaaGreat
open Go.ChangeShapes Go.WideShapes Go.ChangeAt Go.RowKit
set_option linter.unusedVariables false

def intsV (l : List Int) : List Value := l.map fun x => .int .i64 x

theorem splice_put {S : List UInt8} {o : Nat} {bs : List UInt8} : splice (bytesV S) o (bytesV bs) = bytesV (put S o bs) := by
  simp only [splice, put, bytesV, List.map_append, List.map_take, List.map_drop, List.length_map, List.append_assoc]

section
variable {P : Program} {w : World}
/-- a copy into a row that is known whole, and that nothing else turns -/
theorem wpList_copy_at {ops : Array Oper} {rest : List Oper} {o : Oper} {a : Act} {Q : Exit → Act → World → Prop} (hgd : o.guard = none) (d s : Operand) (dT sT : TypeId)
    (ho : o.op = .call { callee := .builtin .copy, args := #[d, s], argTypes := #[dT, sT] }) (elem : TypeId) (hu : P.underlying dT = some (.slice elem)) (hsz : (P.info? elem).map (·.size) = some 1)
    (dp sp : Option Addr) (dLen dCap sLen sCap : Nat) (hd : a.eval d = .slice dp dLen dCap) (hs : a.eval s = .slice sp sLen sCap)
    (g off : Nat) (cur : List Value) (t : TypeId) (hg : w.heap[g]? = some (.cells cur.toArray t (0, 0))) (cs : List Value) (hn : cs.length = Nat.min sLen dLen)
    (hpos : 0 < cs.length → dp = some ⟨g, off, none⟩ ∧ ∃ ad, sp = some ad ∧ ∀ j v, cs[j]? = some v → w.cell? (ad.add j) = some v)
    (hfit : off + cs.length ≤ cur.length) (h1 : ∀ v ∈ cs, v.oneCell' = true)
    (h : ∀ w', Hid (w'.heap[g]? = some (.cells (splice cur off cs).toArray t (0, 0))) → Turned (fun k => k = g) w w' → wpList P ops Q rest (a.put o.dst (goInt cs.length)) w') :
    wpList P ops Q (o :: rest) a w := by
  by_cases h0 : cs.length = 0
  · obtain rfl : cs = [] := List.eq_nil_of_length_eq_zero h0
    refine wpList_copy_nothing hgd d s dT sT ho elem hu hsz dp sp dLen dCap sLen sCap hd hs (by simpa using hn.symm) ?_
    exact h w (show _ = _ by simpa [splice] using hg) (.refl _ _)
  · obtain ⟨rfl, ad, rfl, hsrc⟩ := hpos (by omega)
    refine wpList_copy_own hgd d s dT sT ho elem hu hsz g off dLen dCap ad sLen sCap hd hs cur.toArray t hg cs hn hsrc (by simpa using hfit) h1 ?_
    exact h _ (show _ = _ by simpa [splice] using setRow_heap w g _ _ t _ hg) ⟨rfl, rfl, rfl, by simp, fun k _ hk => setRow_other w g k _ hk⟩
end

/-- loads and stores of a whole write: behind names -/
def ldWr (p : Value) : Sem Value := Instr.loadAt 96 p
theorem ldWr_eq (p : Value) : Instr.loadAt 96 p = ldWr p := rfl
def stWr (p v : Value) : Sem Unit := Instr.storeAt 96 p v
theorem stWr_eq (p v : Value) : Instr.storeAt 96 p v = stWr p v := rfl
theorem ldWr_run {w : World} {b o : Nat} {cs : List Value} (h : w.rangeAt b o cs) (h65 : cs.length = 65) : (ldWr (.pointer (some ⟨b, o, none⟩))).run Tryz.prog w = .ok (.agg cs.toArray) w :=
  run_loadAt_mid w b o _ _ _ h Tryz.underlying96 rfl (by rw [wr_size, h65])
theorem stWr_run (w : World) (cs cs' : Array Value) (h65 : cs.size = 65) (h65' : cs'.size = 65) (h1 : cs'.all (·.oneCell') = true) :
    (stWr (.pointer (some ⟨w.heap.size, 0, none⟩)) (.agg cs')).run Tryz.prog (w.alloc (.cells cs 96)) = .ok () (w.alloc (.cells cs' 96)) :=
  run_storeAt_new w _ cs cs' (by rw [wr_size, h65']) (by omega) h1
theorem u8_size : (Tryz.prog.info? 5).map (·.size) = some 1 := by kernel_rfl
attribute [local go_sem ↓] ldWr_eq stWr_eq

/-- where the writes lie that wait -/
theorem wait_at {w : World} {B : Nat} {A : Option Addr} {m c k : Nat} {L : List (Nat × List UInt8)} {p : Nat × List UInt8} (hown : w.ownsRow B 96 65 (.slice A m c) m (wcells L)) (hL : ∀ p ∈ L, p.2.length = 64) (hm : L.length = m) (hk : L[k]? = some p) :
    ∃ b, A = some ⟨b, 0, none⟩ ∧ w.rangeAt b (65 * k) (wcell p) := by
  have hkl : k < L.length := (List.getElem?_eq_some_iff.1 hk).1
  rcases hown.2 with ⟨_, h0⟩ | ⟨b, cap, cur, hv, _, hh, hnc, _, hcs, ht⟩
  · omega
  · injection hv with hA
    subst hA
    refine ⟨b, rfl, fun j v hv => ?_⟩
    rw [cell_of_row w b (65 * k + j) cur _ (0, 0) hh]
    have h2 := wcells_at hL hk j v hv
    rw [← ht, List.getElem?_take] at h2
    split at h2
    · simpa using h2
    · cases h2

theorem kept_ways {keeps : List Int} {k : Nat} {x : Int} (h : keeps[k]? = some x) : (x < 0 ∧ kept keeps k = 0) ∨ (∃ q : Nat, x = (q : Int) ∧ (q : Int) ≤ 64 ∧ kept keeps k = q) ∨ (64 < x ∧ kept keeps k = 64) := by
  unfold kept
  rw [h]
  simp only
  by_cases h0 : x < 0
  · exact .inl ⟨h0, by omega⟩
  · by_cases h1 : 64 < x
    · exact .inr (.inr ⟨h1, by omega⟩)
    · exact .inr (.inl ⟨x.toNat, by omega, by omega, by omega⟩)

set_option maxRecDepth 100000 in
theorem settle_any (B g s : Nat) (r : Option Nat) (d : Dv) (KA : Option Addr) (kn kc : Nat) (keeps : List Int) (w : World) (h : IsD w B g s r d) (hL : d.L.length ≤ 1000000) (hk : keeps.length = kn) (hs : Seen w KA (intsV keeps)) (hap : 0 < kn → ∀ gb ob, KA = some ⟨gb, ob, none⟩ → gb ≠ s) :
    Calls Tryz.prog 26 #[.pointer (some ⟨g, 0, none⟩), .slice KA kn kc] w fun e w' => e = .returned (.tuple #[]) ∧ MovedD B g s r (d.settled keeps) w w' := by
  have H := Lib.hid h
  obtain ⟨hok, hBg, hBs, hgs, hrg, hrs, hS, A, c, hh, hown, hr⟩ := h
  have Hs := Lib.hid hs; clear hs
  have Hap := Lib.hid hap; clear hap
  have Hk := Lib.hid hk; clear hk
  have c1 : w.cell? ⟨g, 1, none⟩ = some (.slice A d.L.length c) := row_cell hh 1
  have Hok := Lib.hid hok; have HS := Lib.hid hS; have Hh := Lib.hid hh; have Hown := Lib.hid hown; have Hr := Lib.hid hr; have Hne := Lib.hid (And.intro hgs (And.intro hrg hrs))
  clear hok hS hh hown hr hgs hrg hrs
  obtain ⟨m, hm⟩ : ∃ m, d.L.length = m := ⟨_, rfl⟩
  rw [hm] at c1 hL
  have Hm := Lib.hid hm; clear hm
  go_enter Tryz.func26, Tryz.ntmps26
  go_wp2
  go_loopw [12] (fun i wr => ∃ k : Nat, k ≤ m ∧ i = .int .i64 k ∧ Turned (fun j => j = s) w wr ∧ wr.heap[s]? = some (.cells (bytesV (settle keeps 0 (d.L.take k) d.S)).toArray 94 (0, 0))) (fun i _ => m - (intOf i).toNat)
  case atStart => exact ⟨0, by omega, rfl, .refl _ _, by simpa [settle] using HS.out⟩
  case round =>
    obtain ⟨k, hkm, rfl, ht, hsr⟩ := hrel
    have Ht := Lib.hid ht; clear ht
    have Hsr := Lib.hid hsr; clear hsr
    have hg0 := Ht.out.heap Hh.out (fun e => Hne.out.1 e)
    have hc0 : wr.cell? ⟨g, 0, none⟩ = some (.slice (some ⟨s, 0, none⟩) d.n d.n) := row_cell hg0 0
    have hc1 : wr.cell? ⟨g, 1, none⟩ = some (.slice A d.L.length c) := row_cell hg0 1
    have hf1 : wr.frozen? ⟨g, 1, none⟩ = false := row_frozen hg0 1
    have Hg0 := Lib.hid hg0; clear hg0
    by_cases hlt : k < m
    · obtain ⟨p, hp⟩ : ∃ p, d.L[k]? = some p := ⟨_, List.getElem?_eq_getElem (by have := Hm.out; omega)⟩
      have hpL := Hok.out.L p (List.mem_of_getElem? hp)
      obtain ⟨b, hA, hra⟩ := wait_at Hown.out (fun p hp => (Hok.out.L p hp).2) rfl hp
      have hbs : b ≠ s := fun e => by
        subst e; subst hA
        exact Hne.out.2.2 Hr.out.symm
      subst hA
      have hra1 : wr.rangeAt b (65 * k) (wcell p) := fun j v hv => Ht.out.cell (hra j v hv) hbs
      clear hra
      have hwl : (wcell p).length = 65 := by simp [wcell, bytes_length, hpL.2]
      have hld := ldWr_run hra1 hwl
      rw [show 65 * k = k * 65 by omega] at hld
      have hst := stWr_run wr zw (wcell p).toArray zw_size (by simp [hwl]) (all_oneCell_toArray (wcell_one p))
      obtain ⟨cw, hcw⟩ : ∃ cw, (wcell p).toArray = cw := ⟨_, rfl⟩
      rw [hcw] at hld hst
      have hZ := zw_run
      have hcw0 : cw[0]? = some (.int .i64 (p.1 : Int)) := by rw [← hcw]; rfl
      have hcwj : ∀ j v, (bytesV p.2)[j]? = some v → cw[1 + j]? = some v := fun j v hv => by rw [← hcw, Nat.add_comm]; simpa [wcell] using hv
      have hd0 : (wr.alloc (.cells cw 96)).cell? ⟨g, 0, none⟩ = some (.slice (some ⟨s, 0, none⟩) d.n d.n) := (World.cell?_alloc_lt wr _ _ (block_lt_of_cell hc0)).trans hc0
      have hp0 : (wr.alloc (.cells cw 96)).cell? ⟨wr.heap.size, 0, none⟩ = some (.int .i64 (p.1 : Int)) := (cell_of_row _ _ 0 _ _ (0, 0) (heap_alloc_new wr _)).trans hcw0
      have hsr2 : (wr.alloc (.cells cw 96)).heap[s]? = some (.cells (bytesV (settle keeps 0 (d.L.take k) d.S)).toArray 94 (0, 0)) := (Below.heap_alloc _ _ _ (Array.getElem?_eq_some_iff.1 Hsr.out).1).trans Hsr.out
      have tw : Turned (fun j => j = s) w (wr.alloc (.cells cw 96)) := Ht.out.alloc _
      have hnew : (wr.alloc (.cells cw 96)).heap[wr.heap.size]? = some (.cells cw 96 (0, 0)) := heap_alloc_new wr _
      obtain ⟨W2, hW2⟩ : ∃ W2, wr.alloc (.cells cw 96) = W2 := ⟨_, rfl⟩
      rw [hW2] at hst hd0 hp0 hsr2 tw hnew
      have Hcwj := Lib.hid hcwj; clear hcwj hcw0
      have Htw := Lib.hid tw; have Hnew := Lib.hid hnew; have HW2 := Lib.hid hW2
      clear tw hnew hW2
      have Hsr2 := Lib.hid hsr2; clear hsr2
      have i0 : (0 : Int) ≤ (p.1 : Int) := by omega
      have i1 : (p.1 : Int) < (d.n : Int) := by have := hpL.1; omega
      have Hcw := Lib.hid hcw; clear hcw hra1 hwl hbs
      have Hp := Lib.hid hp; clear hp
      have HpL := Lib.hid hpL; clear hpL
      have hkp := kept_le keeps k
      have hlen : (bytesV (p.2.take (kept keeps k))).length = kept keeps k := by rw [bytes_length, List.length_take, HpL.out.2]; omega
      have hsrc : ∀ j v, (bytesV (p.2.take (kept keeps k)))[j]? = some v → W2.drew.cell? ((⟨wr.heap.size, 1, none⟩ : Addr).add j) = some v := fun j v hv => by
        rw [Addr.add_lit]
        show W2.cell? ⟨wr.heap.size, 1 + j, none⟩ = some v
        rw [cell_of_row W2 _ _ _ _ (0, 0) Hnew.out]
        refine Hcwj.out j v ?_
        rw [bytesV, List.map_take, List.getElem?_take] at hv
        split at hv
        · exact hv
        · cases hv
      have hfit : p.1 * 64 + (bytesV (p.2.take (kept keeps k))).length ≤ (bytesV (settle keeps 0 (d.L.take k) d.S)).length := by
        rw [hlen, bytes_length, settle_length keeps _ 0 _ d.n Hok.out.S (fun q hq => Hok.out.L q (List.mem_of_mem_take hq))]
        have := HpL.out.1
        omega
      have hnext : bytesV (settle keeps 0 (d.L.take (k + 1)) d.S) = splice (bytesV (settle keeps 0 (d.L.take k) d.S)) (p.1 * 64) (bytesV (p.2.take (kept keeps k))) := by
        have hkl : k < d.L.length := by have := Hm.out; omega
        have hp := Hp.out
        rw [List.getElem?_eq_getElem hkl] at hp
        injection hp with hp
        rw [splice_put, List.take_succ_eq_append_getElem hkl, hp, settle_snoc, List.length_take, Nat.min_eq_left (by omega), Nat.zero_add, Nat.mul_comm 64]
      have Hlen := Lib.hid hlen; have Hsrc := Lib.hid hsrc; have Hfit := Lib.hid hfit; have Hnext := Lib.hid hnext
      clear hkp hlen hsrc hfit hnext
      have b0 : (0 : Int) ≤ (k : Int) := by omega
      have b1 : (k : Int) < (m : Int) := by omega
      have Hp1 := Lib.hid Hp.out; clear Hp
      by_cases hkk : k < kn
      · obtain ⟨x, hx⟩ : ∃ x, keeps[k]? = some x := ⟨_, List.getElem?_eq_getElem (by have := Hk.out; omega)⟩
        have hxs : ∃ kb ko, KA = some ⟨kb, ko, none⟩ ∧ wr.cell? ⟨kb, ko + k, none⟩ = some (.int .i64 x) := by
          rcases Hs.out with e | ⟨kb, ko, e, hc⟩
          · have := congrArg List.length e
            rw [intsV, List.length_map, Hk.out] at this
            simp at this
            omega
          · exact ⟨kb, ko, e, Ht.out.cell (hc k _ (by rw [intsV, List.getElem?_map, hx]; rfl)) (Hap.out (by omega) kb ko e)⟩
        obtain ⟨kb, ko, rfl, hkc0⟩ := hxs
        have hkc := (World.cell?_alloc_lt wr (.cells cw 96) _ (block_lt_of_cell hkc0)).trans hkc0
        rw [HW2.out] at hkc
        clear hkc0
        have Hx := Lib.hid hx; clear hx
        have b2 : (k : Int) < (kn : Int) := by omega
        have Hkl := Lib.hid hkk; clear hkk
        rcases kept_ways Hx.out with ⟨x0, hq⟩ | ⟨q, rfl, x0, hq⟩ | ⟨x0, hq⟩
        all_goals
          have Hq := Lib.hid hq; clear hq
          go_wp2
          go_still_tail 11, (by kernel_rfl)
          change wpList _ _ _ _ _ W2.drew
          refine wpList_copy_at rfl (.tmp 34) (.tmp 37) _ _ rfl 5 Tryz.underlying31 u8_size _ _ _ _ _ _ rfl rfl s (p.1 * 64) _ _ Hsr2.out (bytesV (p.2.take (kept keeps k))) (by rw [Hlen.out, Hq.out]; first | rfl | exact (Nat.min_eq_left (by omega)).symm) (fun _ => ⟨rfl, _, rfl, Hsrc.out⟩) Hfit.out (bytes_one _) ?_
          intro w3 hs3 ht3; have Hs3 := Lib.hid hs3; have Ht3 := Lib.hid ht3; clear hs3 ht3
          go_wp2
          go_roundw
          case rel => exact ⟨k + 1, by omega, by go_num, (Htw.out.trans (.of_below (Below.refl _ _).drew) (fun _ e => e) (fun _ _ e => e)).trans Ht3.out (fun _ e => e) (fun _ _ e => e), by rw [Hnext.out]; exact Hs3.out.out⟩
          case measure => simp [intOf]; omega
      · have hq : kept keeps k = 64 := by
          unfold kept
          rw [List.getElem?_eq_none (by have := Hk.out; omega)]
        have b2 : ¬ (k : Int) < (kn : Int) := by omega
        have Hkl := Lib.hid hkk; clear hkk
        have Hq := Lib.hid hq; clear hq
        go_wp2
        go_still_tail 11, (by kernel_rfl)
        change wpList _ _ _ _ _ W2.drew
        refine wpList_copy_at rfl (.tmp 34) (.tmp 37) _ _ rfl 5 Tryz.underlying31 u8_size _ _ _ _ _ _ rfl rfl s (p.1 * 64) _ _ Hsr2.out (bytesV (p.2.take (kept keeps k))) (by rw [Hlen.out, Hq.out]; first | rfl | exact (Nat.min_eq_left (by omega)).symm) (fun _ => ⟨rfl, _, rfl, Hsrc.out⟩) Hfit.out (bytes_one _) ?_
        intro w3 hs3 ht3; have Hs3 := Lib.hid hs3; have Ht3 := Lib.hid ht3; clear hs3 ht3
        go_wp2
        go_roundw
        case rel => exact ⟨k + 1, by omega, by go_num, (Htw.out.trans (.of_below (Below.refl _ _).drew) (fun _ e => e) (fun _ _ e => e)).trans Ht3.out (fun _ e => e) (fun _ _ e => e), by rw [Hnext.out]; exact Hs3.out.out⟩
        case measure => simp [intOf]; omega
    · have hkm' : k = m := by omega
      subst hkm'
      have Hhlt := Lib.hid hlt; clear hlt
      go_wp2
      go_end0
      refine ⟨rfl, none, ⟨Hok.out.settled keeps, hBg, hBs, Hne.out.1, by simp, by simp, ?_, none, 0, ?_, World.ownsRow_nil _ _ _ _, rfl⟩, fun j hj => by simp at hj, ?_⟩
      · rw [Below.heap_setCell _ _ _ _ (fun e => Hne.out.1 e.symm)]
        have := Hsr.out
        rwa [List.take_of_length_le (by have := Hm.out; omega)] at this
      · rw [row_set Hg0.out]; rfl
      · exact (Ht.out.mono (fun _ _ e => .inr (.inl e))).setCell (fun _ => .inl rfl) _

theorem Boot_any (B g s : Nat) (r : Option Nat) (d : Dv) (KA : Option Addr) (kn kc : Nat) (keeps : List Int) (w : World) (h : IsD w B g s r d) (hL : d.L.length ≤ 1000000) (hk : keeps.length = kn) (hs : Seen w KA (intsV keeps)) (hap : 0 < kn → ∀ gb ob, KA = some ⟨gb, ob, none⟩ → gb ≠ s) :
    Calls Tryz.prog 13 #[.pointer (some ⟨g, 0, none⟩), .slice KA kn kc] w fun e w' => e = .returned (.tuple #[]) ∧ MovedD B g s r (d.boot keeps) w w' := by
  have H := Lib.hid h; clear h
  have Hs := Lib.hid hs; clear hs
  have Hap := Lib.hid hap; clear hap
  have Hk := Lib.hid hk; clear hk
  go_enter Tryz.func13, Tryz.ntmps13
  go_wp2_with fail
  refine (settle_any B g s r d KA kn kc keeps w H.out hL Hk.out Hs.out Hap.out).mono ?_
  rintro e w1 ⟨rfl, hmv⟩
  obtain ⟨r1, hd, hrr, htt⟩ := hmv
  have Hd := Lib.hid hd; have Hrr := Lib.hid hrr; have Htt := Lib.hid htt
  obtain ⟨hok, hBg, hBs, hgs, hrg, hrs, hS, A, c, hh, hown, hr⟩ := hd
  have c3 := row_cell hh 3
  have c2 := row_cell hh 2
  have f2 := row_frozen hh 2
  have f3 := row_frozen hh 3
  simp at c2 c3
  clear hok hS hh hown hr hgs hrg hrs hrr htt
  have hf2 : ∀ u, (w1.setCell ⟨g, 3, none⟩ u).frozen? ⟨g, 2, none⟩ = false := fun u => by rw [World.frozen?_setCell]; exact f2
  have hc2 : ∀ u, (w1.setCell ⟨g, 3, none⟩ u).cell? ⟨g, 2, none⟩ = w1.cell? ⟨g, 2, none⟩ := fun u => World.cell?_setCell_other _ _ _ _ (by simp)
  go_wp2
  go_end0
  refine ⟨rfl, MovedD.step Hrr.out Htt.out ?_⟩
  exact (Hd.out.setDown false).trans fun r2 h2 => h2.setFuse (-1) (by omega) (by omega)

theorem Flush_any (B g s : Nat) (r : Option Nat) (d : Dv) (w : World) (h : IsD w B g s r d) (hL : d.L.length ≤ 1000000) :
    Calls Tryz.prog 62 #[.pointer (some ⟨g, 0, none⟩)] w fun e w' => e = .returned (.int .i64 (d.flushE : Int)) ∧ MovedD B g s r d.flush w w' := by
  have H := Lib.hid h; clear h
  obtain ⟨d1, hd1⟩ : ∃ d1, d.burnt = d1 := ⟨_, rfl⟩
  have hL1 : d1.L.length ≤ 1000000 := by rw [← hd1, Dv.burnt_L]; exact hL
  cases hdn : d1.down with
  | true =>
    have e1 : d.flushE = 16 ∧ d.flush = d1 := by unfold Dv.flushE Dv.flush; rw [hd1, if_pos hdn, if_pos hdn]; exact ⟨rfl, rfl⟩
    rw [e1.1]
    have E1 := Lib.hid e1; have Hd1 := Lib.hid hd1; have Hdn := Lib.hid hdn
    clear e1 hd1 hdn
    go_enter Tryz.func62, Tryz.ntmps62
    go_wp2_with fail
    refine (burn_any B g s r d w H.out).mono ?_
    rw [Hd1.out, Hdn.out]
    rintro e w1 ⟨rfl, hmv⟩
    have Hmv := Lib.hid hmv; clear hmv
    go_wp2
    go_ret
    rw [E1.out.2]
    exact ⟨rfl, Hmv.out⟩
  | false =>
    have e1 : d.flushE = 0 ∧ d.flush = d1.settled [] := by
      have h' : ¬ d1.down = true := by rw [hdn]; simp
      unfold Dv.flushE Dv.flush; rw [hd1, if_neg h', if_neg h']; exact ⟨rfl, rfl⟩
    rw [e1.1]
    have E1 := Lib.hid e1; have Hd1 := Lib.hid hd1; have Hdn := Lib.hid hdn
    clear e1 hd1 hdn
    go_enter Tryz.func62, Tryz.ntmps62
    go_wp2_with fail
    refine (burn_any B g s r d w H.out).mono ?_
    rw [Hd1.out, Hdn.out]
    rintro e w1 ⟨rfl, hmv⟩
    obtain ⟨r1, hd, hrr, htt⟩ := hmv
    have Hd := Lib.hid hd; have Hrr := Lib.hid hrr; have Htt := Lib.hid htt
    clear hd hrr htt
    go_wp2_with fail
    refine (settle_any B g s r1 d1 none 0 0 [] w1 Hd.out hL1 rfl (.inl rfl) (fun h => by omega)).mono ?_
    rintro e w2 ⟨rfl, hmv⟩
    have Hmv := Lib.hid hmv; clear hmv
    go_wp2
    go_ret
    rw [E1.out.2]
    exact ⟨rfl, MovedD.step Hrr.out Htt.out Hmv.out⟩
end Go.Proofs.YtjekcaoonaniaaaGreat
