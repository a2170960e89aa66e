/-
  Contracts of volume's Servers and Volumes. Conditions: a state in memory.
-/
import Derived.Test.YtcaaakoahaoooaaVolNum
namespace Go.Proofs.Ytcaaakoahaoooaa
open Go.ChangeShapes Go.WideShapes Go.ChangeAt Go.RowKit
set_option linter.unusedVariables false

/-- a call's own row of elements of several cells, n of them -/
def OwnRetM (e : TypeId) (size n : Nat) (xs : List Value) (w : World) (en : Ending) (w' : World) : Prop :=
  ∃ A c, en = .returned (.slice A n c) ∧ w'.ownsRow w.heap.size e size (.slice A n c) n xs ∧ Below w.heap.size w w'
def pkL (s : St) : List Value := (List.range 16).map fun i => .int .i64 (s.pk i)
theorem pkL_get (s : St) {i : Nat} (hi : i < 16) : (pkL s)[i]? = some (.int .i64 (s.pk i)) := by
  unfold pkL
  rw [List.getElem?_map, List.getElem?_range hi]
  rfl
theorem pkL_length (s : St) : (pkL s).length = 16 := by simp [pkL]
theorem pk_info : (Try.prog.info? 63).map (·.size) = some 16 := by kernel_rfl
/-- the capacities as an array -/
def pkA (s : St) : Array Value := (pkL s).toArray
def ldPk (p : Value) : Sem Value := Instr.loadAt 63 p
theorem ldPk_eq (p : Value) : Instr.loadAt 63 p = ldPk p := rfl
theorem ldPk_run {w : World} {g : Nat} {cs : Array Value} {s : St} {K : Nat → Sl} {X : Nat → List Ck} (h : StC w g cs s K X) : (ldPk (.pointer (some ⟨g, 0, none⟩))).run Try.prog w = .ok (.agg (pkA s)) w := by
  have hr : w.rangeAt g 0 (pkL s) := fun j v hv => by
    have hj : j < 16 := by have := (List.getElem?_eq_some_iff.1 hv).1; rwa [pkL_length] at this
    rw [pkL_get s hj] at hv
    rw [Nat.zero_add, h.cell, h.pk j hj]
    exact hv
  exact run_loadAt_mid w g 0 63 (pkL s) _ hr Try.underlying63 rfl (by rw [pkL_length]; exact pk_info)
theorem ix_run {cs : Array Value} {i : Nat} {x : Int} (hi : i < 16) (hx : cs[i]? = some (.int .i64 x)) (w : World) : (Instr.index 63 (.agg cs) (.int .i64 (i : Int))).run Try.prog w = .ok (.int .i64 x) w := by
  have h1 : (0 : Int) ≤ (i : Int) ∧ (i : Int) < 16 := by omega
  have z : (Go.sizeOf 3).run Try.prog w = .ok 1 w := by kernel_rfl
  have hn : ¬ 16 ≤ i := by omega
  simp [Instr.index, run_underlying Try.underlying63, asIntOf, part, h1, hx, z, hi, go_sem]
/-- servers below n -/
def srvL (pk : Nat → Int) (n : Nat) : List Nat := (List.range n).filter fun i => decide (0 < pk i)
theorem srvL_yes {pk : Nat → Int} {n : Nat} (h : 0 < pk n) : srvL pk (n + 1) = srvL pk n ++ [n] := by simp [srvL, List.range_succ, h]
theorem srvL_no {pk : Nat → Int} {n : Nat} (h : ¬ 0 < pk n) : srvL pk (n + 1) = srvL pk n := by
  unfold srvL
  rw [List.range_succ, List.filter_append]
  simp [h]
theorem srvL_len (pk : Nat → Int) (n : Nat) : (srvL pk n).length ≤ n := by
  have := List.length_filter_le (fun i => decide (0 < pk i)) (List.range n)
  simpa [srvL] using this
def loadsV (pk : Nat → Int) (l : List Nat) : List Value := l.flatMap fun (i : Nat) => [.int .i64 (i : Int), .int .i64 (pk i)]
theorem loadsV_append (pk : Nat → Int) (a b : List Nat) : loadsV pk (a ++ b) = loadsV pk a ++ loadsV pk b := by simp [loadsV]
theorem loadsV_get (pk : Nat → Int) : ∀ {l : List Nat} {i : Nat} {p : Nat}, l[i]? = some p → (loadsV pk l)[i * 2]? = some (.int .i64 (p : Int)) ∧ (loadsV pk l)[i * 2 + 1]? = some (.int .i64 (pk p))
  | [], _, _, h => by simp at h
  | q :: r, 0, p, h => by
    simp at h
    subst h
    exact ⟨rfl, rfl⟩
  | q :: r, i + 1, p, h => by
    have := loadsV_get pk (l := r) (i := i) (p := p) (by simpa using h)
    have e1 : (i + 1) * 2 = (i * 2) + 1 + 1 := by omega
    rw [e1]
    exact this
theorem load_info : (Try.prog.info? 43).map (fun i => (i.zero, i.size, i.bytes)) = some (some (.agg #[.int .i64 0, .int .i64 0]), 2, 16) := by kernel_rfl
attribute [local go_sem ↓] ldPk_eq
set_option maxRecDepth 100000 in
set_option maxHeartbeats 1000000 in
theorem Servers_any (g : Nat) (s : St) (w : World) (h : StAt w g s) :
    Calls Try.prog 12 #[.pointer (some ⟨g, 0, none⟩)] w (OwnRetM 43 2 (serversL s.pk).length (loadsV s.pk (serversL s.pk)) w) := by
  obtain ⟨cs, K, X, h⟩ := h
  have hld := ldPk_run h
  have hix := fun i hi W => ix_run (cs := pkA s) (i := i) (x := s.pk i) hi (by unfold pkA; rw [List.getElem?_toArray]; exact pkL_get s hi) W
  have HX := Lib.hid hix
  clear h hix
  go_enter Try.func12, Try.ntmps12
  go_wp2
  go_loopw [3, 10] (fun sv iv wr => ∃ (i : Nat) (A' : Option Addr) (c' : Nat), i ≤ 16 ∧ iv = .int .i64 (i : Int) ∧ sv = .slice A' (srvL s.pk i).length c' ∧ wr.ownsRow w.heap.size 43 2 (.slice A' (srvL s.pk i).length c') (srvL s.pk i).length (loadsV s.pk (srvL s.pk i)) ∧ Below w.heap.size w wr) (fun _ iv _ => 16 - (intOf iv).toNat)
  case atStart => exact ⟨0, _, _, by omega, rfl, rfl, World.ownsRow_nil _ _ _ _, Below.refl _ _⟩
  case round =>
    obtain ⟨i, A', c', hin, rfl, rfl, ho, hb⟩ := hrel
    by_cases hi : i < 16
    · have hxi := HX.out i hi
      obtain ⟨n, hn⟩ : ∃ n, (srvL s.pk i).length = n := ⟨_, rfl⟩
      have hn6 : n ≤ 16 := by have := srvL_len s.pk i; omega
      rw [hn] at ho
      have i0 : (0 : Int) ≤ (i : Int) := by omega
      have i1 : (i : Int) < 16 := by omega
      obtain ⟨x, hx⟩ : ∃ x, s.pk i = x := ⟨_, rfl⟩
      by_cases hp : 0 < s.pk i
      · have hs := srvL_yes hp
        rw [hx] at hxi hp
        obtain ⟨Wb, hWb⟩ : ∃ Wb, wr.alloc (.cells #[.int .i64 (i : Int), .int .i64 x] 43) = Wb := ⟨_, rfl⟩
        have hbb : Below wr.heap.size wr Wb := by rw [← hWb]; exact below_box _ _
        have hsb : Seen Wb (some ⟨wr.heap.size, 0, none⟩) [.int .i64 (i : Int), .int .i64 x] := by rw [← hWb]; exact Seen.of_cells (heap_alloc_new wr _)
        have Ho := Lib.hid (own_belowM ho hbb); have Hb := Lib.hid (hb.trans (hbb.mono hb.size)); have Hsb := Lib.hid hsb; have Hs := Lib.hid hs; have Hn := Lib.hid hn; have Hx := Lib.hid hx
        clear ho hb hbb hsb hs hx
        rw [hn]
        clear hn
        go_wp2_with (at_builtin; refine wpList_app3 rfl (.tmp 16) (.tmp 20) _ rfl 43 _ 2 16 Try.underlying39 load_info rfl (by omega) w.heap.size A' n c' (loadsV s.pk (srvL s.pk i)) rfl Ho.out wr.heap.size 0 1 1 [.int .i64 (i : Int), .int .i64 x] rfl rfl Hsb.out (fun u hu => by simp at hu; rcases hu with rfl | rfl <;> rfl) (by unfold maxLen; omega) (by omega) Hb.out.size ?_; intro A4 c4 w4 hown4 hg4 hbk4; have Hown4 := Lib.hid hown4; have Hg4 := Lib.hid hg4; clear hown4 hg4 hbk4)
        go_roundw
        case rel =>
          have tg : Turned (fun k => (Value.slice A' n c').ownBlock = some k) Wb w4 := Turned.of_grown Hg4.out fun k e => e
          have el : (srvL s.pk (i + 1)).length = n + 1 := by rw [Hs.out, List.length_append, Hn.out]; rfl
          refine ⟨i + 1, A4, c4, by omega, by go_num, by rw [el], ?_, ?_⟩
          · have := Hown4.out
            rw [el, Hs.out, loadsV_append]
            rw [← Hx.out] at this
            exact this
          · exact Hb.out.trans (tg.below (fun k e => (Ho.out.lt k e).1) Hb.out.size)
        case measure => simp [intOf]; omega
      · have hs := srvL_no hp
        rw [hx] at hxi hp
        have Ho := Lib.hid ho; have Hb := Lib.hid hb; have Hs := Lib.hid hs; have Hn := Lib.hid hn
        clear ho hb hs hx
        rw [hn]
        clear hn
        go_wp2
        go_roundw
        case rel => exact ⟨i + 1, A', c', by omega, by go_num, by rw [Hs.out, Hn.out], by rw [Hs.out, Hn.out]; exact Ho.out, Hb.out⟩
        case measure => simp [intOf]; omega
    · obtain rfl : i = 16 := by omega
      have i1 : ¬ ((16 : Nat) : Int) < 16 := by omega
      obtain ⟨n, hn⟩ : ∃ n, (srvL s.pk 16).length = n := ⟨_, rfl⟩
      rw [hn] at ho ⊢
      have Ho := Lib.hid ho; have Hb := Lib.hid hb; have Hn := Lib.hid hn
      clear ho hb hn
      go_wp2
      go_ret
      refine ⟨A', c', ?_, ?_, Hb.out⟩
      · show _ = Ending.returned (.slice A' (srvL s.pk 16).length c')
        rw [Hn.out]; rfl
      · show World.ownsRow _ _ _ _ (.slice A' (srvL s.pk 16).length c') (srvL s.pk 16).length _
        rw [Hn.out]
        exact Ho.out
end Go.Proofs.Ytcaaakoahaoooaa
