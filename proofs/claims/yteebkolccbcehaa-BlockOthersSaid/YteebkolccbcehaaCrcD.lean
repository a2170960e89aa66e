/-
  Contracts of crc.Open: for any bytes, up to a million of them.
-/
import Derived.Test.YteebkolccbcehaaCrcC
import Derived.Deep.RegionHeld3
import Derived.Deep.DeepCutAuto
namespace Go.Proofs.Yteebkolccbcehaa
open Go.ChangeShapes Go.WideShapes Go.ChangeAt Go.RowKit
set_option linter.unusedVariables false

/-- what Open hands back of bytes that are whole -/
def OpenRet (xs : List Value) (w : World) (en : Ending) (w' : World) : Prop :=
  ∃ A c, en = .returned (.tuple #[.slice A xs.length c, .bool true]) ∧ w'.ownsRow w.heap.size 5 1 (.slice A xs.length c) xs.length xs ∧ Below w.heap.size w w'

theorem arrayAt_four (a : Addr) (k : Nat) (w : World) : (Instr.arrayAt 58 (.slice (some a) 4 k)).run Try.prog w = .ok (.pointer (some a)) w := by
  unfold Instr.arrayAt
  simp [Sem.run_bind, run_underlying Try.underlying58]
theorem size_u8 (w : World) : (sizeOf 5).run Try.prog w = .ok 1 w := by kernel_rfl
theorem eq4 (a0 a1 a2 a3 b0 b1 b2 b3 : Int) (w : World) :
    (Op.equalIn 10000 58 (.agg #[.int .u8 a0, .int .u8 a1, .int .u8 a2, .int .u8 a3]) (.agg #[.int .u8 b0, .int .u8 b1, .int .u8 b2, .int .u8 b3])).run Try.prog w = .ok (a0 == b0 && (a1 == b1 && (a2 == b2 && a3 == b3))) w := by
  rw [Op.equalIn]
  simp only [Sem.run_bind, run_underlying Try.underlying58, Result.andThen_ok, size_u8, Std.Legacy.Range.forIn_eq_forIn_range']
  simp [List.range', Sem.run_bind, part]
  have h : ∀ a b w, (Op.equalIn 9999 5 (.int .u8 a) (.int .u8 b)).run Try.prog w = .ok (a == b) w := fun a b w => run_equalIn_int w 9998 5 .u8 .u8 a b Try.underlying5
  simp only [h, Result.andThen_ok]
  by_cases e0 : a0 = b0 <;> by_cases e1 : a1 = b1 <;> by_cases e2 : a2 = b2 <;> by_cases e3 : a3 = b3 <;> simp [e0, e1, e2, e3]

theorem drop_four {bs : List UInt8} {n : Nat} (h : bs.length = n + 4) : bs.drop n = [bs.getD (n + 0) 0, bs.getD (n + 1) 0, bs.getD (n + 2) 0, bs.getD (n + 3) 0] := by
  refine List.ext_getElem (by simp; omega) fun i h1 h2 => ?_
  have hi : i < 4 := by simpa using h2
  rw [List.getElem_drop]
  have e : ∀ k, k < 4 → bs.getD (n + k) 0 = bs[n + k]?.getD 0 := fun k _ => List.getD_eq_getElem?_getD
  rcases i with _ | _ | _ | _ | i
  · simp [List.getElem?_eq_getElem (show n < bs.length by omega)]
  · simp [List.getElem?_eq_getElem (show n + 1 < bs.length by omega)]
  · simp [List.getElem?_eq_getElem (show n + 2 < bs.length by omega)]
  · simp [List.getElem?_eq_getElem (show n + 3 < bs.length by omega)]
  · omega
theorem open_eq {bs : List UInt8} {n : Nat} (h : bs.length = n + 4) (y0 y1 y2 y3 : Nat) (hy0 : (bs.getD (n + 0) 0).toNat = y0) (hy1 : (bs.getD (n + 1) 0).toNat = y1) (hy2 : (bs.getD (n + 2) 0).toNat = y2) (hy3 : (bs.getD (n + 3) 0).toNat = y3) (q : Nat) (hq : crcOf (bs.take n) = q) :
    ((y0 : Int) == ((q % 256 : Nat) : Int) && ((y1 : Int) == ((q / 256 % 256 : Nat) : Int) && ((y2 : Int) == ((q / 65536 % 256 : Nat) : Int) && (y3 : Int) == ((q / 16777216 % 256 : Nat) : Int)))) = openB bs := by
  unfold openB
  rw [h, show n + 4 - 4 = n by omega, drop_four h, hq]
  have e : ∀ x : UInt8, ∀ m : Nat, (x = UInt8.ofNat m) ↔ x.toNat = m % 256 := fun x m => by
    rw [← UInt8.toNat_inj]; simp
  rw [Bool.eq_iff_iff]
  simp only [Bool.and_eq_true, beq_iff_eq, decide_eq_true_eq, le4, List.cons.injEq, e, hy0, hy1, hy2, hy3, and_true]
  omega
theorem hold4 {w w' : World} {g p0 p1 p2 p3 : Nat} {v0 v1 v2 v3 : Option Value} (hlt : g < w.heap.size) (hb : Below w.heap.size w w') (h0 : w.cell? ⟨g, p0, none⟩ = v0) (h1 : w.cell? ⟨g, p1, none⟩ = v1)
    (h2 : w.cell? ⟨g, p2, none⟩ = v2) (h3 : w.cell? ⟨g, p3, none⟩ = v3) : Below w.heap.size w w' ∧ w'.cell? ⟨g, p0, none⟩ = v0 ∧ w'.cell? ⟨g, p1, none⟩ = v1 ∧ w'.cell? ⟨g, p2, none⟩ = v2 ∧ w'.cell? ⟨g, p3, none⟩ = v3 :=
  ⟨hb, (hb.cell (p := ⟨g, p0, none⟩) hlt).trans h0, (hb.cell (p := ⟨g, p1, none⟩) hlt).trans h1, (hb.cell (p := ⟨g, p2, none⟩) hlt).trans h2, (hb.cell (p := ⟨g, p3, none⟩) hlt).trans h3⟩
theorem Seal_n (A : Option Addr) (n c : Nat) (bs : List UInt8) (w : World) (hn : bs.length = n) (h : Seen w A (bytesV bs)) (hl : n ≤ 1000000) :
    Calls Try.prog 24 #[.slice A n c] w (OwnRet 5 (bytesV (sealOf bs)) w) := by
  subst hn
  exact Seal_any A c bs w h hl
end Go.Proofs.Yteebkolccbcehaa
