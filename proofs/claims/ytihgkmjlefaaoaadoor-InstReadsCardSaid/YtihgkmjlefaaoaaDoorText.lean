/- The reference's Text. -/
import Derived.Test.YtihgkmjlefaaoaaDoorRet
import Derived.Test.YtihgkmjlefaaoaaDoorNumM
import Derived.Below
import Derived.LaidLaws
import Derived.Laws.IdiomStrings
set_option linter.unusedVariables false
namespace Go.Proofs.YtihgkmjlefaaoaaDoor
open Go.RowKit

open Go.Lib in
theorem length_dec : ∀ (k u : Nat), u < 10 ^ (k + 1) → (decDigits u).length ≤ k + 1 := by
  intro k
  induction k with
  | zero => intro u h; rw [decDigits_one (by simpa using h)]; simp
  | succ k ih =>
    intro u h
    rw [decDigits]
    split
    · simp
    · have := ih (u / 10) (by rw [Nat.pow_succ] at h; omega)
      rw [List.length_append]; simp; omega
open Go.Lib in
theorem dec_step (c : Nat) (h : 9 < c) : decDigits c = decDigits (c / 10) ++ [UInt8.ofNat (48 + c % 10)] := by
  rw [decDigits, dif_neg (by omega)]
theorem one_byte (w : World) (x : Nat) (y : Int) (d : UInt8) (hx : x < 256) (hy : y = (x : Int)) (hd : UInt8.ofNat x = d) :
    (convert 56 9 (.slice (some ⟨w.heap.size, 0, none⟩) 1 1)).run Tryd.prog (w.alloc (.cells #[.int .u8 y] 5)) = .ok (.string ⟨[d].toArray⟩) (w.alloc (.cells #[.int .u8 y] 5)) := by
  subst hy hd
  refine run_convert_bytes_back (P := Tryd.prog) _ 56 9 5 ⟨w.heap.size, 0, none⟩ 1 [UInt8.ofNat x] Tryd.underlying56 Tryd.underlying5 Tryd.underlying9 ?_
  intro j hj
  have e : (UInt8.ofNat x).toNat = x := by simp; omega
  match j, hj with
  | 0, _ =>
    show _ = some (Value.int .u8 ((UInt8.ofNat x).toNat : Int))
    rw [e]; simp [Addr.add]
  | n + 1, hj => simp at hj
theorem join_str (d : UInt8) (r : List UInt8) : (⟨[d].toArray⟩ : ByteArray) ++ ⟨r.toArray⟩ = ⟨(d :: r).toArray⟩ := by
  apply ByteArray.ext
  simp

set_option maxHeartbeats 400000 in
theorem ref_text (n : Nat) (w : World) (hn : n < 4294967296) :
    Calls Tryd.prog 37 #[.int .u32 (n : Int)] w fun e w' => e = .returned (.string ⟨(Lib.decDigits n).toArray⟩) ∧ Below w.heap.size w w' := by
  have HL := Lib.hid (length_dec 9 n (by omega))
  go_enter Tryd.func37, Tryd.ntmps37
  go_wp2
  go_loopw [0, 3] (fun sn ss wr => ∃ (c : Nat) (r : List UInt8), sn = .int .u32 (c : Int) ∧ ss = .string ⟨r.toArray⟩ ∧ c < 4294967296 ∧ r.length ≤ 10 ∧ Hid (Lib.decDigits c ++ r = Lib.decDigits n) ∧ Below w.heap.size w wr) (fun sn _ _ => (intOf sn).toNat)
  case atStart => exact ⟨n, [], rfl, rfl, hn, by simp, by show _ = _; simp, Below.refl _ _⟩
  case round =>
    obtain ⟨c, r, rfl, rfl, c1, hr, HR, hnx⟩ := hrel
    by_cases hc : 9 < c
    · obtain ⟨d, hd⟩ : ∃ d, UInt8.ofNat (48 + c % 10) = d := ⟨_, rfl⟩
      have hcv := one_byte wr (48 + c % 10) (48 + (c : Int) % 10) d (by omega) (by omega) hd
      have hs := dec_step c hc
      rw [hd] at hs
      have hr2 : (Lib.decDigits (c / 10)).length + (r.length + 1) = (Lib.decDigits n).length := by
        rw [← HR.out, hs]; simp only [List.length_append, List.length_cons, List.length_nil]; omega
      have hl := HL.out
      have hr3 : r.length + 1 ≤ 10 := by omega
      have HS := Lib.hid hs
      clear hs hd hr2 hl
      go_wp2
      go_roundw
      case rel => exact ⟨c / 10, d :: r, by go_num, congrArg Value.string (join_str d r), by omega, by simp only [List.length_cons]; omega, by show _ = _; rw [← HR.out, HS.out, List.append_assoc]; rfl, hnx.alloc hnx.size _⟩
      case measure => simp [intOf]; omega
    · obtain ⟨d, hd⟩ : ∃ d, UInt8.ofNat (48 + c) = d := ⟨_, rfl⟩
      have hcv := one_byte wr (48 + c) (48 + (c : Int)) d (by omega) (by omega) hd
      have hs : Lib.decDigits c = [d] := by rw [Lib.decDigits_one (by omega), hd]
      have HS := Lib.hid hs
      clear hs hd
      have hfin : d :: r = Lib.decDigits n := by rw [← HR.out, HS.out]; rfl
      have HF := Lib.hid hfin
      clear hfin
      go_wp2
      go_ret
      exact ⟨congrArg (fun b => Ending.returned (Value.string b)) ((join_str d r).trans (by rw [HF.out])), hnx.alloc hnx.size _⟩
end Go.Proofs.YtihgkmjlefaaoaaDoor
