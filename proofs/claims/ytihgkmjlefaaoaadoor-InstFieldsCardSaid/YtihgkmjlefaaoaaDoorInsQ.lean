/- The document's examples of layer 7 hold: the contract of the laws' alive. -/
import Derived.Test.YtihgkmjlefaaoaaDoorInsS
import Derived.Deep.RegionHeld3
set_option linter.unusedVariables false
namespace Go.Proofs.YtihgkmjlefaaoaaDoor
open Go.RowKit

theorem dec_big (c : Nat) (h : 9 < c) : Lib.decDigits c = Lib.decDigits (c / 10) ++ [UInt8.ofNat (48 + c % 10)] := by
  rw [Lib.decDigits, dif_neg (by omega)]
theorem dec_small (c : Nat) (h : c < 10) : Lib.decDigits c = [UInt8.ofNat (48 + c)] := Lib.decDigits_one h
theorem ex_add : itx 4 1 2 3 = [97, 100, 100, 32, 114, 49, 44, 32, 114, 50, 44, 32, 114, 51] := by
  have h : rgt 4 1 2 3 = true := by decide
  unfold itx
  rw [h]
  have e1 : Lib.decDigits (1 : Int).toNat = [49] := dec_small 1 (by omega)
  have e2 : Lib.decDigits (2 : Int).toNat = [50] := dec_small 2 (by omega)
  have e3 : Lib.decDigits (3 : Int).toNat = [51] := dec_small 3 (by omega)
  show nam 4 ++ ([32] ++ (114 :: Lib.decDigits (1 : Int).toNat) ++ ([44, 32] ++ (114 :: Lib.decDigits (2 : Int).toNat) ++ ([44, 32] ++ (114 :: Lib.decDigits (3 : Int).toNat) ++ []))) = _
  rw [e1, e2, e3]
  decide
theorem ex_li : itx 1 4 0 65535 = [108, 105, 32, 114, 52, 44, 32, 54, 53, 53, 51, 53] := by
  have h : rgt 1 4 0 65535 = true := by decide
  unfold itx
  rw [h]
  have e1 : Lib.decDigits (4 : Int).toNat = [52] := dec_small 4 (by omega)
  have e2 : Lib.decDigits (65535 : Int).toNat = [54, 53, 53, 51, 53] := by
    show Lib.decDigits 65535 = _
    rw [dec_big 65535 (by omega), dec_big (65535 / 10) (by omega), dec_big (65535 / 10 / 10) (by omega), dec_big (65535 / 10 / 10 / 10) (by omega), dec_small (65535 / 10 / 10 / 10 / 10) (by omega)]
    decide
  show nam 1 ++ ([32] ++ (114 :: Lib.decDigits (4 : Int).toNat) ++ ([44, 32] ++ Lib.decDigits (65535 : Int).toNat ++ [])) = _
  rw [e1, e2]
  decide
theorem at4 {p : Option Nat} {w W : World} {q : Nat} {t : TypeId} {v0 v1 v2 v3 : Value} {bs : List (Nat × Obj)} (h : Kx p w W ((q, .cells #[v0, v1, v2, v3] t (0, 0)) :: bs)) : W.cell? ⟨q, 0, none⟩ = some v0 ∧ W.cell? ⟨q, 1, none⟩ = some v1 ∧ W.cell? ⟨q, 2, none⟩ = some v2 ∧ W.cell? ⟨q, 3, none⟩ = some v3 := by
  obtain ⟨a0, a1, a2, a3, _⟩ := cells4 (h.at 0 rfl)
  exact ⟨a0, a1, a2, a3⟩
set_option maxRecDepth 100000 in
set_option maxHeartbeats 2000000 in
theorem awake7 (w : World) (ht : Tabs w) :
    Calls Tryd.prog 9 #[] w fun e w' => e = .returned (.bool true) ∧ Below w.heap.size w w' := by
  have c1 := fun w ht => encode7 4 1 2 3 w ht
  have c2 := fun w ht => encode7 26 0 0 0 w ht
  have c3 := fun w ht => decode7 0 w (by omega) (by omega) ht
  have c4 := fun w ht => text7 4 1 2 3 w ht
  have c5 := fun w ht => text7 1 4 0 65535 w ht
  rw [show ecv 4 1 2 3 = 68288515 from by decide, show ece 4 1 2 3 = 0 from by decide] at c1
  rw [show ecv 26 0 0 0 = 436207616 from by decide, show ece 26 0 0 0 = 0 from by decide] at c2
  rw [show dcd 0 = #[.int .i64 0, .int .i64 0, .int .i64 0, .int .i64 0] from rfl, show dce 0 = 7 from by decide] at c3
  rw [ex_add] at c4
  rw [ex_li] at c5
  have C1 := Lib.hid c1
  have C2 := Lib.hid c2
  have C3 := Lib.hid c3
  have C4 := Lib.hid c4
  have C5 := Lib.hid c5
  have HT := Lib.hid ht
  have HK := Lib.hid ((Kx.nil none w).more (.cells #[.int .i64 4, .int .i64 1, .int .i64 2, .int .i64 3] 23 (0, 0)))
  obtain ⟨a0, a1, a2, a3, _⟩ := cells4 (HK.out.at 0 rfl)
  clear c1 c2 c3 c4 c5 ht
  go_enter Tryd.func9, Tryd.ntmps9
  go_wp2_with fail
  refine (C1.out _ (HT.out.oldn HK.out)).mono ?_
  rintro e w1 ⟨rfl, hb⟩
  replace HK := Lib.hid (HK.out.after hb)
  clear hb a0 a1 a2 a3
  go_wp2_with fail
  refine (C2.out _ (HT.out.oldn HK.out)).mono ?_
  rintro e w2 ⟨rfl, hb⟩
  replace HK := Lib.hid (HK.out.after hb)
  clear hb
  go_wp2_with fail
  refine (C3.out _ (HT.out.oldn HK.out)).mono ?_
  rintro e w3 ⟨rfl, hb⟩
  replace HK := Lib.hid ((HK.out.after hb).more (.cells #[.int .i64 0, .int .i64 0, .int .i64 0, .int .i64 0] 23 (0, 0)))
  clear hb
  obtain ⟨a0, a1, a2, a3, _⟩ := cells4 (HK.out.at 0 rfl)
  go_wp2_with fail
  refine (C4.out _ (HT.out.oldn HK.out)).mono ?_
  rintro e w4 ⟨rfl, hb⟩
  replace HK := Lib.hid (HK.out.after hb)
  clear hb a0 a1 a2 a3
  go_wp2_with fail
  refine (C5.out _ (HT.out.oldn HK.out)).mono ?_
  rintro e w5 ⟨rfl, hb⟩
  replace HK := Lib.hid (HK.out.after hb)
  clear hb
  go_wp2_with fail
  go_ret
  exact ⟨rfl, HK.out.be.plain⟩
end Go.Proofs.YtihgkmjlefaaoaaDoor
