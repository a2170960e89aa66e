/-
  Contract of volume's Volumes; what the document's state and a state of volumes have in common, list by list. Conditions: a state in memory; both states go together.
-/
import Derived.Test.YtmdmpliiiecmlaaGreatRfDoB
namespace Go.Proofs.YtmdmpliiiecmlaaGreat
open Go.ChangeShapes Go.WideShapes Go.ChangeAt Go.RowKit
set_option linter.unusedVariables false
set_option linter.unusedSimpArgs false

def volsN (s : St) (n : Nat) : List Nat := (List.range n).filter fun i => decide ((s.vs i).bl ≠ 0)
theorem volsN_yes {s : St} {n : Nat} (h : (s.vs n).bl ≠ 0) : volsN s (n + 1) = volsN s n ++ [n] := by simp [volsN, List.range_succ, h]
theorem volsN_no {s : St} {n : Nat} (h : (s.vs n).bl = 0) : volsN s (n + 1) = volsN s n := by simp [volsN, List.range_succ, h]
theorem volsN_len (s : St) (n : Nat) : (volsN s n).length ≤ n := by
  have := List.length_filter_le (fun i => decide ((s.vs i).bl ≠ 0)) (List.range n)
  simpa [volsN] using this
theorem volsN_mem {s : St} {n x : Nat} (h : x ∈ volsN s n) : x < n ∧ (s.vs x).bl ≠ 0 := by
  unfold volsN at h
  have := List.mem_filter.1 h
  exact ⟨List.mem_range.1 this.1, by simpa using this.2⟩
theorem isVol_cast {s : St} {i : Nat} (hi : i < 64) : isVol s (i : Int) = decide ((s.vs i).bl ≠ 0) := by
  unfold isVol
  rw [decide_eq_true (by omega : 0 ≤ (i : Int) ∧ (i : Int) ≤ 63), Bool.true_and, Int.toNat_natCast]
set_option maxRecDepth 100000 in
set_option maxHeartbeats 2000000 in
theorem VVolumes (g : Nat) (s : St) (w : World) (h : StAt w g s) :
    Calls Tryz.prog 22 #[.pointer (some ⟨g, 0, none⟩)] w (OwnRetM 3 1 (volsN s 64).length (numsV (toI (volsN s 64))) w) := by
  have H := Lib.hid h
  clear h
  go_enter Tryz.func22, Tryz.ntmps22
  go_wp2
  go_loopw [3, 7] (fun sv iv wr => ∃ (i n : Nat) (A' : Option Addr) (c' : Nat), i ≤ 64 ∧ iv = .int .i64 (i : Int) ∧ sv = .slice A' n c' ∧ (volsN s i).length = n ∧ wr.ownsRow w.heap.size 3 1 (.slice A' n c') n (numsV (toI (volsN s i))) ∧ Below w.heap.size w wr) (fun _ iv _ => 64 - (intOf iv).toNat)
  case atStart => exact ⟨0, 0, _, _, by omega, rfl, rfl, rfl, World.ownsRow_nil _ _ _ _, Below.refl _ _⟩
  case round =>
    obtain ⟨i, n, A', c', hin, rfl, rfl, hn, ho, hb⟩ := hrel
    by_cases hi : i < 64
    · have hn6 : n ≤ 64 := by have := volsN_len s i; omega
      have i0 : (0 : Int) ≤ (i : Int) := by omega
      have i1 : (i : Int) < 64 := by omega
      have Hn := Lib.hid hn; have Hb := Lib.hid hb; have Hi := Lib.hid (isVol_cast (s := s) hi)
      by_cases hv : (s.vs i).bl ≠ 0
      · have hs := volsN_yes hv
        have KV := Lib.hid (Vvolume_yes g s i wr (H.out.below hb) (by rw [Hi.out, decide_eq_true hv]))
        obtain ⟨Wb, hWb⟩ : ∃ Wb, wr.alloc (.cells #[.int .i64 (i : Int)] 3) = Wb := ⟨_, rfl⟩
        have hbb : Below wr.heap.size wr Wb := by rw [← hWb]; exact below_box _ _
        have hsb : Seen Wb (some ⟨wr.heap.size, 0, none⟩) [.int .i64 (i : Int)] := by rw [← hWb]; exact Seen.of_cells (heap_alloc_new wr _)
        have Ho := Lib.hid (own_below ho hbb); have Hb2 := Lib.hid (hb.trans (hbb.mono hb.size)); have Hsb := Lib.hid hsb; have Hs := Lib.hid hs
        clear ho hb hbb hsb hs hn hv
        go_wp2_with (first
          | (go_at_call 29; refine KV.out.mono ?_; rintro e w2 ⟨rfl, rfl⟩)
          | (at_builtin; refine wpList_app2 rfl (.tmp 17) (.tmp 19) _ rfl 3 _ 8 Tryz.underlying27 int_info rfl w.heap.size A' n c' (numsV (toI (volsN s i))) rfl Ho.out _ 1 1 [.int .i64 (i : Int)] rfl rfl Hsb.out (by simp [Value.oneCell']) (by unfold maxLen; omega) (by omega) Hb2.out.size ?_; intro A4 c4 w4 hown4 hg4 hbk4; have Hown4 := Lib.hid hown4; have Hg4 := Lib.hid hg4; clear hown4 hg4 hbk4))
        go_roundw
        case rel =>
          have tg : Turned (fun k => (Value.slice A' n c').ownBlock = some k) Wb w4 := Turned.of_grown Hg4.out fun k e => e
          refine ⟨i + 1, n + 1, A4, c4, by omega, by go_num, rfl, by rw [Hs.out, List.length_append, Hn.out]; rfl, ?_, ?_⟩
          · rw [Hs.out, toI_append, numsV_append]
            exact Hown4.out
          · exact Hb2.out.trans (tg.below (fun k e => (Ho.out.lt k e).1) Hb2.out.size)
        case measure => simp [intOf]; omega
      · have hv0 : (s.vs i).bl = 0 := by omega
        have hs := volsN_no hv0
        have KV := Lib.hid (Vvolume_no g s (i : Int) wr (H.out.below hb) (by rw [Hi.out, decide_eq_false hv]))
        have Ho := Lib.hid ho; have Hs := Lib.hid hs
        clear ho hb hs hn hv hv0
        go_wp2_with (go_at_call 29; refine KV.out.mono ?_; rintro e w2 ⟨rfl, rfl⟩)
        go_roundw
        case rel => exact ⟨i + 1, n, A', c', by omega, by go_num, rfl, by rw [Hs.out, Hn.out], by rw [Hs.out]; exact Ho.out, Hb.out⟩
        case measure => simp [intOf]; omega
    · obtain rfl : i = 64 := by omega
      have i1 : ¬ ((64 : Nat) : Int) < 64 := by omega
      have Ho := Lib.hid ho; have Hb := Lib.hid hb; have Hn := Lib.hid hn
      clear ho hb hn
      go_wp2
      go_ret
      unfold OwnRetM
      rw [Hn.out]
      exact ⟨A', c', rfl, Ho.out, Hb.out⟩

/-! ### both states, list by list -/
theorem rel_vlen {s : St} {r : RS} (h : Rel s r) : (volsN s 64).length = r.vs.length := by rw [h.vols, List.length_map]; rfl
theorem rel_vget {s : St} {r : RS} (h : Rel s r) {i : Nat} {v : RV} (hv : r.vs[i]? = some v) : ∃ x, (volsN s 64)[i]? = some x ∧ x < 64 ∧ (s.vs x).bl ≠ 0 ∧ v = rvOf s x := by
  rw [h.vols] at hv
  rw [List.getElem?_map, Option.map_eq_some_iff] at hv
  obtain ⟨x, hx, rfl⟩ := hv
  obtain ⟨h1, h2⟩ := volsN_mem (List.mem_of_getElem? (l := volsN s 64) hx)
  exact ⟨x, hx, h1, h2, rfl⟩
theorem rel_perm {n : Int} {s : St} {r : RS} (h : Rel s r) (hg : GoodD n s) : (allKs s 64).Perm r.cs := by
  have hpre : PreF s := ⟨fun i hi k hk => ((hg.vs i hi).ks k hk).vo, fun i hi k hk => ((hg.vs i hi).ks k hk).id.2, fun i hi k hk => ((hg.vs i hi).ks k hk).nd, fun i hi => hg.ord.rise i hi, fun a b ha hb k hk k' hk' e => hg.ord.one a b ha hb k hk k' hk' e⟩
  exact (List.perm_ext_iff_of_nodup hpre.all (List.Pairwise.imp (R := fun a b : Chk => a.id < b.id) (fun {a b} hab e => by subst e; omega) h.cr)).2 fun k => by
    rw [h.cm]
    unfold allKs
    rw [List.mem_flatMap]
    constructor
    · rintro ⟨i, hi, hk⟩; exact ⟨i, List.mem_range.1 hi, hk⟩
    · rintro ⟨i, hi, hk⟩; exact ⟨i, List.mem_range.2 hi, hk⟩
theorem rel_ids {n : Int} {s : St} {r : RS} (h : Rel s r) (hg : GoodD n s) : sortI (idsK (allKs s 64)) = idsK r.cs := by
  have hp : (idsK (allKs s 64)).Perm (idsK r.cs) := (rel_perm h hg).map _
  have h1 : (sortI (idsK (allKs s 64))).Pairwise fun a b => a ≤ b := by
    have := List.pairwise_mergeSort (le := fun x y : Int => decide (x ≤ y)) (fun a b c h1 h2 => by simp at *; omega) (fun a b => by simp; omega) (idsK (allKs s 64))
    exact this.imp fun {a b} e => by simpa using e
  have h2 : (idsK r.cs).Pairwise fun a b => a ≤ b := by
    unfold idsK
    rw [List.pairwise_map]
    exact List.Pairwise.imp (R := fun a b : Chk => a.id < b.id) (fun {a b} e => by omega) h.cr
  exact List.Perm.eq_of_pairwise (le := fun a b => a ≤ b) (fun a b _ _ x y => by omega) h1 h2 ((List.mergeSort_perm _ _).trans hp)
theorem rel_find {n : Int} {s : St} {r : RS} (h : Rel s r) (hg : GoodD n s) {k : Chk} (hk : k ∈ r.cs) : ∃ i j, findS s k.id = some (i, j, k) := by
  obtain ⟨i, hi, hm⟩ := (h.cm k).1 hk
  obtain ⟨j, hj⟩ := List.mem_iff_getElem?.1 hm
  exact ⟨i, j, hg.ord.find ⟨hi, hj, rfl⟩⟩
/-- how many servers there are among the first n -/
def cntP (pk : Nat → Int) (n : Nat) : Nat := ((List.range n).filter fun i => decide (0 < pk i)).length
theorem cntP_yes {pk : Nat → Int} {n : Nat} (h : 0 < pk n) : cntP pk (n + 1) = cntP pk n + 1 := by simp [cntP, List.range_succ, h]
theorem cntP_no {pk : Nat → Int} {n : Nat} (h : ¬ 0 < pk n) : cntP pk (n + 1) = cntP pk n := by
  have : decide (0 < pk n) = false := decide_eq_false h
  simp [cntP, List.range_succ, this]
theorem cntP_le (pk : Nat → Int) (n : Nat) : cntP pk n ≤ n := by
  have := List.length_filter_le (fun i => decide (0 < pk i)) (List.range n)
  simpa [cntP] using this
theorem cntP_rel {s : St} {r : RS} (h : Rel s r) : cntP r.pk 16 = (serversL s.pk).length := by
  unfold cntP serversL
  congr 1
  apply List.filter_congr
  intro i hi
  rw [h.pk i (List.mem_range.1 hi)]
theorem srv_mem {pk : Nat → Int} {x : Nat} (h : x ∈ serversL pk) : x < 16 ∧ 0 < pk x := by
  unfold serversL at h
  have := List.mem_filter.1 h
  exact ⟨List.mem_range.1 this.1, by simpa using this.2⟩
theorem srv_rise (pk : Nat → Int) {i j : Nat} {x y : Nat} (hij : i < j) (hx : (serversL pk)[i]? = some x) (hy : (serversL pk)[j]? = some y) : x < y := by
  have hp : (serversL pk).Pairwise fun a b => a < b := List.Pairwise.filter _ List.pairwise_lt_range
  obtain ⟨h1, rfl⟩ := List.getElem?_eq_some_iff.1 hx
  obtain ⟨h2, rfl⟩ := List.getElem?_eq_some_iff.1 hy
  exact List.pairwise_iff_getElem.1 hp i j h1 h2 hij
theorem sub_add_cast (a b : Nat) : (a : Int) - (b : Int) - 1 = (a : Int) - ((b + 1 : Nat) : Int) := by omega
end Go.Proofs.YtmdmpliiiecmlaaGreat
