/- The law's own functions: great, has, awake. -/
import Derived.Test.YtlbaejebgldlkaaDoorHexE
set_option linter.unusedVariables false
namespace Go.Proofs.YtlbaejebgldlkaaDoor
open Go.RowKit

theorem conv_row (w : World) (S : ByteArray) (n : Nat) (hn : S.size = n) : ∃ C W, (convert 9 32 (.string S)).run Tryd.prog w = .ok (.slice (some ⟨w.heap.size, 0, none⟩) n C) W ∧
    (∀ j, j < n → W.cell? ⟨w.heap.size, j, none⟩ = some (.int .u8 ((S.data.toList.getD j 0).toNat : Int))) ∧ (∀ j, j < n → W.frozen? ⟨w.heap.size, j, none⟩ = false) ∧ Below w.heap.size w W := by
  subst hn
  refine ⟨_, _, Lib.run_convert_string_bytes w 9 32 5 S Tryd.underlying9 Tryd.underlying32 Tryd.underlying5, fun j hj => Lib.bytesWorld_cell w _ S j hj, fun j hj => ?_, ⟨rfl, rfl, rfl, by rw [Lib.bytesWorld_size]; omega, fun j hj => Lib.bytesWorld_at_old w _ S j hj⟩⟩
  have hb := Lib.bytesWorld_at_new w 5 S
  have hsz : j < (Lib.bytesCells w 5 S).size := by
    unfold Lib.bytesCells
    rw [Array.size_append, Array.size_map]
    have : S.data.size = S.size := rfl
    omega
  simp only [World.frozen?, hb]
  simp
  omega

/-- What stands at place j when the first k are done. -/
def mixAt (l : List UInt8) (k j : Nat) : UInt8 := if j < k then up (l.getD j 0) else l.getD j 0
theorem mixAt_next (l : List UInt8) (k j : Nat) (h : j ≠ k) : mixAt l (k + 1) j = mixAt l k j := by
  unfold mixAt
  by_cases h1 : j < k
  · rw [if_pos h1, if_pos (by omega)]
  · rw [if_neg h1, if_neg (by omega)]
theorem mixAt_here (l : List UInt8) (k : Nat) : mixAt l (k + 1) k = up (l.getD k 0) := by unfold mixAt; rw [if_pos (by omega)]
theorem mixAt_now (l : List UInt8) (k : Nat) : mixAt l k k = l.getD k 0 := by unfold mixAt; rw [if_neg (by omega)]
theorem up_yes (c : UInt8) (h1 : 97 ≤ c.toNat) (h2 : c.toNat ≤ 122) : ((up c).toNat : Int) = (c.toNat : Int) - 32 := by
  unfold up
  rw [if_pos ⟨h1, h2⟩]
  have : (c - 32).toNat = c.toNat - 32 := by
    rw [UInt8.toNat_sub_of_le]
    · rfl
    · rw [UInt8.le_iff_toNat_le]; exact Nat.le_trans (by decide) h1
  rw [this]; omega
theorem up_no (c : UInt8) (h : ¬ (97 ≤ c.toNat ∧ c.toNat ≤ 122)) : up c = c := by unfold up; rw [if_neg h]

set_option maxHeartbeats 1600000 in
theorem great_any (s : ByteArray) (w : World) (hs : s.size ≤ 1073741824) :
    Calls Tryd.prog 13 #[.string s] w fun e w' => e = .returned (.string ⟨(s.data.toList.map up).toArray⟩) ∧ Below w.heap.size w w' := by
  obtain ⟨C, W, hcv, hcells, hfz, hbel⟩ := conv_row w s s.size rfl
  have HCE := Lib.hid hcells
  have HFZ := Lib.hid hfz
  clear hcells hfz
  go_enter Tryd.func13, Tryd.ntmps13
  go_wp2_with fail
  go_loopw [4] (fun si wr => ∃ k : Nat, k ≤ s.size ∧ si = .int .i64 k ∧ Hid (∀ j, j < s.size → wr.cell? ⟨w.heap.size, j, none⟩ = some (.int .u8 ((mixAt s.data.toList k j).toNat : Int))) ∧
      Hid (∀ j, j < s.size → wr.frozen? ⟨w.heap.size, j, none⟩ = false) ∧ Below w.heap.size w wr) (fun si _ => s.size - (intOf si).toNat)
  case atStart => exact ⟨0, Nat.zero_le _, rfl, by intro j hj; unfold mixAt; rw [if_neg (by omega)]; exact HCE.out j hj, HFZ, hbel⟩
  case round =>
    obtain ⟨k, hk, rfl, HC, HF, hnx⟩ := hrel
    by_cases hlt : k < s.size
    · have hi0 : (0 : Int) ≤ (k : Int) := by omega
      have hi1 : (k : Int) < (s.size : Int) := by omega
      have hcx := HC.out k hlt
      have hfx := HF.out k hlt
      rw [mixAt_now] at hcx
      obtain ⟨c, hc⟩ : ∃ c, s.data.toList.getD k 0 = c := ⟨_, rfl⟩
      rw [hc] at hcx
      by_cases h1 : 97 ≤ c.toNat ∧ c.toNat ≤ 122
      · have hu := up_yes c h1.1 h1.2
        have HU := Lib.hid hu
        have HCC := Lib.hid hc
        obtain ⟨h2, h3⟩ := h1
        clear hu hc
        go_wp2_with fail
        go_roundw
        case rel =>
          refine ⟨k + 1, by omega, by go_num, ?_, ?_, hnx.setCell (p := ⟨w.heap.size, k, none⟩) (Nat.le_refl _) _⟩
          · intro j hj
            by_cases hjk : j = k
            · subst hjk
              rw [World.cell?_setCell_same _ _ _ hcx, mixAt_here, HCC.out, HU.out]
            · rw [World.cell?_setCell_other _ _ _ _ (by intro e; cases e; exact hjk rfl), mixAt_next _ _ _ hjk]
              exact HC.out j hj
          · intro j hj
            rw [World.frozen?_setCell]
            exact HF.out j hj
        case measure => simp [intOf]; omega
      · have hu := up_no c h1
        have HU := Lib.hid hu
        have HCC := Lib.hid hc
        clear hu hc
        have hout : c.toNat < 97 ∨ 122 < c.toNat := by omega
        clear h1
        rcases hout with hout | hout
        all_goals
          go_wp2_with fail
          go_roundw
          case rel =>
            refine ⟨k + 1, by omega, by go_num, ?_, HF, hnx⟩
            intro j hj
            by_cases hjk : j = k
            · subst hjk
              rw [hcx, mixAt_here, HCC.out, HU.out]
            · rw [mixAt_next _ _ _ hjk]
              exact HC.out j hj
          case measure => simp [intOf]; omega
    · obtain rfl : k = s.size := by omega
      have hb := run_convert_bytes_back (P := Tryd.prog) wr 32 9 5 ⟨w.heap.size, 0, none⟩ C (s.data.toList.map up) Tryd.underlying32 Tryd.underlying5 Tryd.underlying9 (by
        intro j hj
        have hj2 : j < s.size := by rw [List.length_map, list_size] at hj; exact hj
        have hj3 : j < s.data.toList.length := by rw [list_size]; exact hj2
        have hadd : (⟨w.heap.size, 0, none⟩ : Addr).add j = ⟨w.heap.size, j, none⟩ := by unfold Addr.add; split <;> simp_all
        rw [hadd, HC.out j hj2]
        unfold mixAt
        rw [if_pos hj2]
        simp [List.getD, List.getElem?_eq_getElem hj3])
      rw [List.length_map, list_size] at hb
      obtain ⟨m, hm⟩ : ∃ m, s.data.toList.map up = m := ⟨_, rfl⟩
      rw [hm] at hb
      have HM := Lib.hid hm
      clear hm
      go_wp2
      go_ret
      exact ⟨by rw [HM.out]; rfl, hnx⟩

def hasB (l : List UInt8) (n : Nat) : Bool := l.any fun x => x.toNat == n
set_option maxHeartbeats 400000 in
theorem has_any (s : ByteArray) (n : Nat) (w : World) (hs : s.size ≤ 1073741824) :
    Calls Tryd.prog 20 #[.string s, .int .u8 (n : Int)] w fun e w' => e = .returned (.bool (hasB s.data.toList n)) ∧ w' = w := by
  go_enter Tryd.func20, Tryd.ntmps20
  go_wp2_with fail
  go_loop [5] (fun si => ∃ k : Nat, k ≤ s.size ∧ si = .int .i64 k ∧ Hid (hasB s.data.toList n = hasB (s.data.toList.drop k) n)) (fun si => s.size - (intOf si).toNat)
  case atStart => exact ⟨0, Nat.zero_le _, rfl, rfl⟩
  case round =>
    obtain ⟨k, hk, rfl, HX⟩ := hrel
    by_cases hlt : k < s.size
    · have HX2 := HX.out
      rw [drop_cons s k hlt] at HX2
      obtain ⟨c, hc⟩ : ∃ c, s[k] = c := ⟨_, rfl⟩
      rw [hc] at HX2
      by_cases h0 : c.toNat = n
      · have e1 : ((c.toNat : Int) == (n : Int)) = true := by rw [beq_iff_eq]; omega
        have hy : hasB s.data.toList n = true := by rw [HX2]; simp [hasB, h0]
        have HY := Lib.hid hy
        clear HX2 h0 hy
        go_wp2
        go_ret
        exact ⟨ret_bool HY.out.symm, rfl⟩
      · have e1 : ((c.toNat : Int) == (n : Int)) = false := by rw [beq_eq_false_iff_ne]; omega
        have hy : hasB s.data.toList n = hasB (s.data.toList.drop (k + 1)) n := by rw [HX2]; simp [hasB, h0]
        have HY := Lib.hid hy
        clear HX2 h0 hy
        go_wp2
        go_round
        case rel => exact ⟨k + 1, by omega, by go_num, HY⟩
        case measure => simp [intOf]; omega
    · obtain rfl : k = s.size := by omega
      have HX2 := HX.out
      rw [drop_all] at HX2
      have HY := Lib.hid HX2
      clear HX2
      go_wp2
      go_ret
      exact ⟨ret_bool (by rw [HY.out]; rfl), rfl⟩
theorem hasB_no (l : List UInt8) (n : Nat) (h : hasB l n = false) : ∀ c ∈ l, c.toNat ≠ n := by
  intro c hc e
  unfold hasB at h
  rw [List.any_eq_false] at h
  exact h c hc (by rw [beq_iff_eq]; exact e)

theorem prs_417A : prs [52, 49, 55, 65] = ([65, 122], 0, 0) := by decide
theorem prs_41_7a : prs [52, 49, 32, 55, 97] = ([], 2, 3) := by decide
theorem txt_Az : txt [65, 122] = [52, 49, 55, 97] := by decide
theorem load_Az : load [52, 32, 49, 32, 35, 32, 52, 50, 10, 55, 97, 70] = [65, 122] := by decide
theorem dm_Az : dm 0 [65, 122] = [52, 49, 32, 55, 97, 32, 32, 35, 32, 48, 10] := by
  have e : tl 0 = [32, 32, 35, 32, 48, 10] := by simp [tl, Lib.decDigits_one]
  simp only [dm, e]
  decide

set_option maxHeartbeats 1600000 in
theorem awake_any (w : World) (ht : Tabs w) :
    Calls Tryd.prog 10 #[] w fun e w' => e = .returned (.bool true) ∧ Below w.heap.size w w' := by
  have c1 := fun (w : World) (ht : Tabs w) => parse_hex ⟨#[52, 49, 55, 65]⟩ w (by decide) ht
  have c2 := fun (w : World) (ht : Tabs w) => parse_hex ⟨#[52, 49, 32, 55, 97]⟩ w (by decide) ht
  have c3 := fun (w : World) (ht : Tabs w) => text_hex ⟨#[65, 122]⟩ w (by decide) ht
  have c4 := fun (w : World) (ht : Tabs w) => load_hex ⟨#[52, 32, 49, 32, 35, 32, 52, 50, 10, 55, 97, 70]⟩ w (by decide) ht
  have c5 := fun (w : World) (ht : Tabs w) => dump_hex ⟨#[65, 122]⟩ w (by decide) ht
  simp only [prs_417A] at c1
  simp only [prs_41_7a] at c2
  simp only [txt_Az] at c3
  simp only [load_Az] at c4
  simp only [dm_Az] at c5
  have C1 := Lib.hid c1
  have C2 := Lib.hid c2
  have C3 := Lib.hid c3
  have C4 := Lib.hid c4
  have C5 := Lib.hid c5
  have HT := Lib.hid ht
  clear c1 c2 c3 c4 c5 ht
  go_enter Tryd.func10, Tryd.ntmps10
  go_wp2_with fail
  refine (C1.out _ HT.out).mono ?_
  rintro e w1 ⟨rfl, b1⟩
  have T1 := Lib.hid (HT.out.below b1)
  go_wp2_with fail
  refine (C2.out _ T1.out).mono ?_
  rintro e w2 ⟨rfl, b2⟩
  have k2 := b1.trans (b2.mono b1.size)
  have T2 := Lib.hid (HT.out.below k2)
  go_wp2_with fail
  refine (C3.out _ T2.out).mono ?_
  rintro e w3 ⟨rfl, b3⟩
  have k3 := k2.trans (b3.mono k2.size)
  have T3 := Lib.hid (HT.out.below k3)
  go_wp2_with fail
  refine (C4.out _ T3.out).mono ?_
  rintro e w4 ⟨rfl, b4⟩
  have k4 := k3.trans (b4.mono k3.size)
  have T4 := Lib.hid (HT.out.below k4)
  go_wp2_with fail
  refine (C5.out _ T4.out).mono ?_
  rintro e w5 ⟨rfl, b5⟩
  have k5 := k4.trans (b5.mono k4.size)
  go_wp2
  go_ret
  exact ⟨rfl, k5⟩
end Go.Proofs.YtlbaejebgldlkaaDoor
