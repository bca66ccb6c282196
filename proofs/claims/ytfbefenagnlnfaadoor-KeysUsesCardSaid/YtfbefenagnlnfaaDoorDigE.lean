/- Package digest: the contracts of ending and Of. -/
import Derived.Test.YtfbefenagnlnfaaDoorDigO
set_option linter.unusedVariables false
namespace Go.Proofs.YtfbefenagnlnfaaDoor
open Go.RowKit

/-- What follows on n bytes. -/
def ender (n : Nat) : ByteArray := (⟨#[128]⟩ : ByteArray) ++ ⟨(Lib.repeatL [0] ((23 - n % 16) % 16)).toArray⟩ ++ strOfNums (bytsAll [(n : Int), 0])

theorem length_repeatL0 (z : Nat) : (Lib.repeatL [0] z).length = z := by rw [Lib.repeatL_length]; simp

set_option maxRecDepth 100000 in
set_option maxHeartbeats 1000000 in
theorem ending_code (n : Nat) (w : World) (hn : n ≤ 300) :
    Calls Tryd.prog 66 #[.int .i64 (n : Int)] w fun e w' => e = .returned (.string (ender n)) ∧ Below w.heap.size w w' := by
  have n0 : (0 : Int) ≤ (n : Int) := by omega
  have n1 : (n : Int) ≤ 300 := by omega
  have n2 : (n : Int) / 4294967296 = 0 := by omega
  have n3 : 0 ≤ (n : Int) % 16 := by omega
  have n4 : (n : Int) % 16 ≤ 15 := by omega
  obtain ⟨E, hE⟩ : ∃ E, ender n = E := ⟨_, rfl⟩
  rw [hE]
  unfold ender at hE
  obtain ⟨z, hz⟩ : ∃ z, (23 - n % 16) % 16 = z := ⟨_, rfl⟩
  rw [hz] at hE
  have hzI : (23 - (n : Int)) % 16 = (z : Int) := by omega
  have hz15 : z ≤ 15 := by omega
  have c1 := fun w => Tryd.strings_Repeat ⟨#[0]⟩ z w (by omega) (by show 1 * z ≤ _; omega)
  obtain ⟨R, hR⟩ : ∃ R : ByteArray, (⟨(Lib.repeatL [0] z).toArray⟩ : ByteArray) = R := ⟨_, rfl⟩
  have c1 := fun w => show Calls Tryd.prog 75 #[.string ⟨#[0]⟩, .int .i64 (z : Int)] w (fun e w' => e = .returned (.string ⟨(Lib.repeatL [0] z).toArray⟩) ∧ Below w.heap.size w w') from c1 w
  have hRs : R.size = z := by rw [← hR, size_mk, length_repeatL0]
  rw [hR] at hE c1
  obtain ⟨P, hP⟩ : ∃ P : ByteArray, strOfNums (bytsAll [(n : Int), 0]) = P := ⟨_, rfl⟩
  have hPs : P.size = 8 := by rw [← hP, strOfNums_size, length_bytsAll]; rfl
  have c2 := fun (w1 : World) (hb : w.heap.size < w1.heap.size) (hc : ∀ j, j < 2 → w1.cell? ⟨w.heap.size, 0 + j, none⟩ = some (.int .u32 ([(n : Int), 0].getD j 0))) => bytes_row w.heap.size 0 2 2 [(n : Int), 0] w1 rfl (by omega) (by omega) hb hc (by
    intro j
    match j with
    | 0 => simp; omega
    | 1 => simp
    | k + 2 => simp)
  rw [hP] at hE c2
  obtain ⟨Q, hQ⟩ : ∃ Q : ByteArray, (⟨#[128]⟩ : ByteArray) ++ R = Q := ⟨_, rfl⟩
  have hQs : Q.size = z + 1 := by rw [← hQ, ByteArray.size_append, hRs]; show 1 + z = _; omega
  have hq1 : ((⟨#[128]⟩ : ByteArray) ++ R).size = z + 1 := by rw [hQ, hQs]
  have hq2 : (Q ++ P).size = z + 9 := by rw [ByteArray.size_append, hQs, hPs]
  rw [hQ] at hE
  have C1 := Lib.hid c1
  have C2 := Lib.hid c2
  have HE := Lib.hid hE
  have HQ := Lib.hid hQ
  clear c1 c2 hE hQ hR hP hz
  go_enter Tryd.func66, Tryd.ntmps66
  go_wp2_with fail
  refine (C1.out _).mono ?_
  rintro e w1 ⟨rfl, b1⟩
  have hl1 : w.heap.size < w1.heap.size := by have := b1.size; simp at this; omega
  have hcs : ∀ j, j < 2 → w1.cell? ⟨w.heap.size, 0 + j, none⟩ = some (.int .u32 ([(n : Int), 0].getD j 0)) := by
    intro j hj
    rw [b1.cell (p := ⟨w.heap.size, 0 + j, none⟩) (by simp)]
    match j, hj with
    | 0, _ => simp
    | 1, _ => simp
  have HB := Lib.hid (((Below.refl _ w).alloc (Nat.le_refl _) _).trans (b1.mono (by simp)))
  have HC := Lib.hid hcs
  clear b1 hcs
  go_wp2_with fail
  rw [HQ.out]
  refine (C2.out _ hl1 HC.out).mono ?_
  rintro e w2 ⟨rfl, b2⟩
  have hb := HB.out.trans (b2.mono HB.out.size)
  go_wp2_with fail
  go_ret
  exact ⟨by rw [HE.out]; rfl, hb⟩
end Go.Proofs.YtfbefenagnlnfaaDoor
