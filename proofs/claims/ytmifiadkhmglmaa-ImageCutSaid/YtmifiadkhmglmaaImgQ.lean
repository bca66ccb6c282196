/- The document's examples of layer 8 hold: the contract of the laws' awake. -/
import Derived.Test.YtmifiadkhmglmaaImgS
set_option linter.unusedVariables false
namespace Go.Proofs.Ytmifiadkhmglmaa
open Go.RowKit

theorem one_rd {W : World} {b : Nat} {x : Int} (h : W.heap[b]? = some (.cells #[.int .u32 x] 35 (0, 0))) (hx : 0 ≤ x ∧ x < 4294967296) : Rd W (some ⟨b, 0, none⟩) 1 [x] := by
  refine ⟨rfl, .inr ⟨b, 0, rfl, (Array.getElem?_eq_some_iff.1 h).1, fun j hj => ?_⟩, fun j => ?_⟩
  · obtain rfl : j = 0 := by omega
    simp [World.cell?, h]
  · match j with
    | 0 => exact hx
    | k + 1 => simp
def exS : ByteArray := ⟨#[83, 69, 69, 68, 1, 0, 0, 0, 2, 0, 0, 0, 5, 0, 0, 0]⟩
theorem ex_put : pts [5] 2 = exS ∧ pte [5] 2 = 0 := by
  have h : irt [5] 2 = true := by decide
  constructor
  · unfold pts; rw [h]; rfl
  · unfold pte; rw [h]; rfl
theorem ex_read : rde exS = 0 ∧ rdc exS = [5] ∧ rdd exS = 2 := by
  have h : igo (nums exS) = true := by decide +kernel
  obtain ⟨a, b, c⟩ := rd_yes h
  rw [a, b, c]
  exact ⟨rfl, by decide +kernel, by decide +kernel⟩
theorem ex_more : rde (exS ++ ⟨#[120]⟩) = 7 := (rd_no (by decide +kernel)).1
theorem ex_arg : pts [] (-1) = ⟨#[]⟩ ∧ pte [] (-1) = 1 := by
  have h : irt [] (-1) = false := by decide
  constructor
  · unfold pts; rw [h]; rfl
  · unfold pte; rw [h]; rfl
set_option maxRecDepth 100000 in
set_option maxHeartbeats 2000000 in
theorem awake8 (w : World) :
    Calls Try.prog 10 #[] w fun e w' => e = .returned (.bool true) ∧ Below w.heap.size w w' := by
  have c1 := fun (w : World) (A : Option Addr) (h : Rd w A 1 [5]) => put8 (c := 1) (d := 2) w h (by omega)
  have c2 := fun w => read8_code exS w (by decide)
  have c3 := fun w => read8_code (exS ++ ⟨#[120]⟩) w (by decide)
  have c4 := fun w => put8 (A := none) (n := 0) (c := 0) (d := -1) (code := []) w ⟨rfl, .inl rfl, fun j => by simp⟩ (by omega)
  have c5 := fun (w : World) (A B : Option Addr) (e : Nat) (h : Rd w A 1 [5]) (h2 : Rd w B 1 [5]) => same8_ref (c := 1) (e := e) (d1 := 2) (d2 := 2) w h h2 (by omega) (by omega)
  rw [ex_put.1, ex_put.2] at c1
  rw [ex_read.1, ex_read.2.1, ex_read.2.2] at c2
  rw [ex_more] at c3
  rw [ex_arg.1, ex_arg.2] at c4
  rw [decide_eq_true (show ([5] : List Int) = [5] ∧ (2 : Int) = 2 from ⟨rfl, rfl⟩)] at c5
  have e1 : (exS.toList == [83, 69, 69, 68, 1, 0, 0, 0, 2, 0, 0, 0, 5, 0, 0, 0]) = true := by decide +kernel
  have e2 : exS.size = 16 := rfl
  obtain ⟨S, hS⟩ : ∃ S, exS = S := ⟨_, rfl⟩
  rw [hS] at c1 c2 c3 e1 e2
  have C1 := Lib.hid c1
  have C2 := Lib.hid c2
  have C3 := Lib.hid c3
  have C4 := Lib.hid c4
  have C5 := Lib.hid c5
  have HK := Lib.hid (((Kx.nil none w).more (.cells #[.int .u32 5] 35 (0, 0))).add (w.heap.size + 1) (by simp) (.cells #[.slice (some ⟨w.heap.size, 0, none⟩) 1 1, .int .i64 2] 24 (0, 0)))
  obtain ⟨a0, a1, _⟩ := cells2 (HK.out.at 1 rfl)
  clear c1 c2 c3 c4 c5 hS
  go_enter Try.func10, Try.ntmps10
  go_wp2_with fail
  refine (C1.out _ _ (one_rd (HK.out.at 0 rfl) (by omega))).mono ?_
  rintro e w1 ⟨rfl, hb⟩
  replace HK := Lib.hid (HK.out.after hb)
  clear hb a0 a1
  go_wp2_with fail
  refine (C2.out _).mono ?_
  rintro e w2 ⟨v2, rfl, hi2, hb⟩
  obtain ⟨A2, n2, k2, rfl, hr2, _, _⟩ := hi2
  obtain rfl : 1 = n2 := hr2.1
  replace HK := Lib.hid ((HK.out.after hb).more (.cells #[.slice A2 1 k2, .int .i64 2] 24 (0, 0)))
  replace hr2 := Lib.hid (hr2.below ((Below.refl _ _).alloc (Nat.le_refl _) (.cells #[.slice A2 1 k2, .int .i64 2] 24 (0, 0))))
  clear hb
  go_wp2_with fail
  refine (C3.out _).mono ?_
  rintro e w3 ⟨v3, rfl, hi3, hb⟩
  obtain ⟨A3, n3, k3, rfl, _, _, _⟩ := hi3
  replace HK := Lib.hid ((HK.out.after hb).more (.cells #[.slice A3 n3 k3, .int .i64 (rdd (S ++ ⟨#[120]⟩))] 24 (0, 0)))
  replace hr2 := Lib.hid ((hr2.out.below hb).below ((Below.refl _ _).alloc (Nat.le_refl _) (.cells #[.slice A3 n3 k3, .int .i64 (rdd (S ++ ⟨#[120]⟩))] 24 (0, 0))))
  clear hb
  go_wp2_with fail
  refine (C4.out _).mono ?_
  rintro e w4 ⟨rfl, hb⟩
  replace HK := Lib.hid (HK.out.after hb)
  replace hr2 := Lib.hid (hr2.out.below hb)
  clear hb
  obtain ⟨a0, a1, _⟩ := cells2 (HK.out.at 1 rfl)
  obtain ⟨b0, b1, _⟩ := cells2 (HK.out.at 2 rfl)
  go_wp2_with fail
  refine (C5.out _ _ _ _ (one_rd (HK.out.at 0 rfl) (by omega)) hr2.out).mono ?_
  rintro e w5 ⟨rfl, hb⟩
  replace HK := Lib.hid (HK.out.after hb)
  clear hb a0 a1 b0 b1
  go_wp2_with fail
  go_ret
  exact ⟨rfl, HK.out.be.plain⟩
end Go.Proofs.Ytmifiadkhmglmaa
