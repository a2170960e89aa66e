/-
  Contract of volume's New; the laws' example (awake). No condition.
-/
import Derived.Test.YtcaaakoahaoooaaVolGood
namespace Go.Proofs.Ytcaaakoahaoooaa
open Go.ChangeShapes Go.WideShapes Go.ChangeAt Go.RowKit
set_option linter.unusedVariables false
set_option linter.unusedSimpArgs false

def bdSt (parts : Array (Nat × Value)) : Sem Value := Instr.build 69 parts
theorem bdSt_eq (parts : Array (Nat × Value)) : Instr.build 69 parts = bdSt parts := rfl
theorem bdSt_run (w : World) : (bdSt #[]).run Try.prog w = .ok (.agg zStL.toArray) w := by kernel_rfl
theorem zFlat : ∀ (n i r : Nat), i < n → r < 7 → (List.replicate n zVol).flatten[i * 7 + r]? = zVol[r]?
  | 0, _, _, h, _ => by omega
  | n + 1, 0, r, _, hr => by
    rw [List.replicate_succ, List.flatten_cons, List.getElem?_append_left (by simp [zVol]; omega)]
    simp
  | n + 1, i + 1, r, hi, hr => by
    rw [List.replicate_succ, List.flatten_cons, List.getElem?_append_right (by simp [zVol]; omega)]
    have := zFlat n i r (by omega) hr
    rw [show (i + 1) * 7 + r - zVol.length = i * 7 + r by simp [zVol]; omega]
    exact this
theorem zFlat_len : ((List.replicate 64 zVol).flatten).length = 448 := by kernel_rfl
theorem zSt_pk {i : Nat} (h : i < 16) : zStL.toArray[i]? = some (.int .i64 0) := by
  rw [List.getElem?_toArray]
  unfold zStL
  rw [List.append_assoc, List.getElem?_append_left (by simpa using h), List.getElem?_replicate, if_pos h]
theorem zSt_vol {i r : Nat} (h : i < 64) (hr : r < 7) : zStL.toArray[16 + i * 7 + r]? = zVol[r]? := by
  rw [List.getElem?_toArray]
  unfold zStL
  rw [List.append_assoc, List.getElem?_append_right (by simp; omega), List.length_replicate, show 16 + i * 7 + r - 16 = i * 7 + r by omega, List.getElem?_append_left (by rw [zFlat_len]; omega)]
  exact zFlat 64 i r h hr
theorem zSt_md : zStL.toArray[464]? = some (.int .i64 0) := by
  rw [List.getElem?_toArray]
  unfold zStL
  rw [List.append_assoc, List.getElem?_append_right (by simp), List.length_replicate, List.getElem?_append_right (by rw [zFlat_len]; omega), zFlat_len]
  rfl
theorem st0_at {w : World} {g : Nat} (h : w.heap[g]? = some (.cells zStL.toArray 69 (0, 0))) : StAt w g st0 :=
  ⟨_, fun _ => Sl.nil, fun _ => [], h, zSt_size, fun i hi => zSt_pk hi, fun i hi => zSt_vol (r := 0) hi (by omega), fun i hi => zSt_vol (r := 1) hi (by omega), fun i hi => zSt_vol (r := 2) hi (by omega), fun i hi => zSt_vol (r := 3) hi (by omega),
    fun i hi => zSt_vol (r := 4) hi (by omega), fun i hi => zSt_vol (r := 5) hi (by omega), fun i hi => zSt_vol (r := 6) hi (by omega), zSt_md, fun i hi => KsT.nil _, fun i hi => rfl⟩
attribute [local go_sem ↓] bdSt_eq
def NewRet (w : World) (e : Ending) (w' : World) : Prop := e = .returned (.pointer (some ⟨w.heap.size, 0, none⟩)) ∧ StAt w' w.heap.size st0 ∧ Below w.heap.size w w'
set_option maxRecDepth 100000 in
theorem VNew (w : World) : Calls Try.prog 9 #[] w (NewRet w) := by
  have hbd := bdSt_run
  obtain ⟨Z, hZ⟩ : ∃ Z, zStL.toArray = Z := ⟨_, rfl⟩
  have hs := fun (V : World) (h : V.heap[w.heap.size]? = some (.cells zStL.toArray 69 (0, 0))) => st0_at h
  rw [hZ] at hbd hs
  have Hs := Lib.hid hs
  clear hZ hs
  go_enter Try.func9, Try.ntmps9
  go_wp2
  go_ret
  exact ⟨rfl, Hs.out _ (heap_alloc_new _ _), below_box _ _⟩

/-! ### the example, told -/
def pA : Pol := ⟨1000, 1, 0, 0⟩
def cA1 : Cmd := ⟨1, 2, 1, 0, pol0⟩
def cA2 : Cmd := ⟨2, 0, 9, 1, pA⟩
def cA3 : Cmd := ⟨2, 1, 1, 1, pA⟩
def pkA1 : Nat → Int := fun i => if (i : Int) = 2 then 1 else 0
def sA1 : St := ⟨pkA1, fun _ => vol0, 0⟩
def sA2 : St := ⟨pkA1, fun j => if j = 0 then ⟨9, pA, 1, [⟨1, 0, 1, [2], []⟩, ⟨2, 0, 1, [2], []⟩]⟩ else vol0, 2⟩
theorem few_one (f : Nat → Nat) (x : Nat) : fewF f [x] 1 = [x] := by
  unfold fewF
  rw [List.mergeSort_singleton]
  rfl
theorem servers_A : serversL pkA1 = [2] := by kernel_rfl
theorem adm_A1 : admS sA1 = true := by kernel_rfl
theorem adm_A2 : admS sA2 = true := by kernel_rfl
theorem awk1 : applyS st0 cA1 = (sA1, 0) := by
  have h : doS st0 cA1 = (sA1, 0) := by
    unfold doS
    rw [if_pos (show cA1.k = 1 from rfl), if_pos (by decide)]
    rfl
  unfold applyS
  rw [if_pos (by decide), h]
  simp [adm_A1]
theorem awk2 : applyS sA1 cA2 = (sA2, 0) := by
  have h : doS sA1 cA2 = (sA2, 0) := by
    unfold doS
    rw [if_neg (by decide), if_pos (show cA2.k = 2 from rfl), if_neg (by decide), if_neg (by decide), if_neg (by rw [show serversL sA1.pk = [2] from servers_A]; decide)]
    unfold fillS
    have e1 : (countF ((setV sA1 cA2.a.toNat ⟨cA2.b, cA2.p, 1, []⟩).vs cA2.a.toNat).bl).toNat - ((setV sA1 cA2.a.toNat ⟨cA2.b, cA2.p, 1, []⟩).vs cA2.a.toNat).ks.length = 2 := by decide
    rw [e1]
    unfold fillQ
    rw [show serversL (setV sA1 cA2.a.toNat ⟨cA2.b, cA2.p, 1, []⟩).pk = [2] from servers_A]
    simp only [fillK, show cA2.c.toNat = 1 from rfl, few_one]
    unfold sA2
    congr 1
    unfold setV
    congr 1
    funext j
    by_cases e : j = 0
    · subst e; rfl
    · simp only [show cA2.a.toNat = 0 from rfl, if_neg e]
      rfl
  unfold applyS
  rw [if_pos (by decide), h]
  simp [adm_A2]
theorem awk3 : applyS sA2 cA3 = (sA2, 14) := by
  have h : ∃ s', doS sA2 cA3 = (s', 0) ∧ admS s' = false := by
    unfold doS
    rw [if_neg (by decide), if_pos (show cA3.k = 2 from rfl), if_neg (by decide), if_neg (by decide), if_neg (by rw [show serversL sA2.pk = [2] from servers_A]; decide)]
    refine ⟨_, rfl, ?_⟩
    unfold fillS
    have e1 : (countF ((setV sA2 cA3.a.toNat ⟨cA3.b, cA3.p, 1, []⟩).vs cA3.a.toNat).bl).toNat - ((setV sA2 cA3.a.toNat ⟨cA3.b, cA3.p, 1, []⟩).vs cA3.a.toNat).ks.length = 1 := by decide
    rw [e1]
    unfold fillQ
    rw [show serversL (setV sA2 cA3.a.toNat ⟨cA3.b, cA3.p, 1, []⟩).pk = [2] from servers_A]
    simp only [fillK, show cA3.c.toNat = 1 from rfl, few_one]
    show admS _ = false
    kernel_rfl
  obtain ⟨s', h1, h2⟩ := h
  unfold applyS
  rw [if_pos (by decide), h1]
  simp [h2]
end Go.Proofs.Ytcaaakoahaoooaa
