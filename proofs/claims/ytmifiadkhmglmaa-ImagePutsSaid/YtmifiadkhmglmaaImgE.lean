/- The reference of layer 8: the contract of Read where the bytes are an image's. -/
import Derived.Test.YtmifiadkhmglmaaImgD
set_option linter.unusedVariables false
namespace Go.Proofs.Ytmifiadkhmglmaa
open Go.RowKit

theorem byte_eq {c : UInt8} {k : Nat} (h : (c.toNat : Int) = (k : Int)) (hk : k < 256) : c = UInt8.ofNat k := by
  have : c.toNat = k := by omega
  rw [← this]; simp
set_option maxRecDepth 100000 in
set_option maxHeartbeats 4000000 in
theorem read8_yes (s : ByteArray) (w : World) (hi : igo (nums s) = true) :
    Calls Try.prog 18 #[.string s] w fun e w' => ∃ v, e = .returned (.tuple #[v, .int .i64 0]) ∧ ImV w' v (icd (nums s)) (wrd (nums s) 8) ∧ Below w.heap.size w w' := by
  obtain ⟨h1, g0, g1, g2, g3, h5, h6, h7⟩ := igo_parts hi
  have hl := length_nums s
  have hib := ibl_read (nums_byte s) hi
  rw [hl] at h1 h7
  have j0 : 0 < s.size := by omega
  have j1 : 1 < s.size := by omega
  have j2 : 2 < s.size := by omega
  have j3 : 3 < s.size := by omega
  rw [nums_getD s 0 j0] at g0
  rw [nums_getD s 1 j1] at g1
  rw [nums_getD s 2 j2] at g2
  rw [nums_getD s 3 j3] at g3
  replace g0 : s[0]'j0 = 83 := byte_eq (k := 83) g0 (by omega)
  replace g1 : s[1]'j1 = 69 := byte_eq (k := 69) g1 (by omega)
  replace g2 : s[2]'j2 = 69 := byte_eq (k := 69) g2 (by omega)
  replace g3 : s[3]'j3 = 68 := byte_eq (k := 68) g3 (by omega)
  have hw4 := wrd_bounds (nums_byte s) 4
  have hw8 := wrd_bounds (nums_byte s) 8
  obtain ⟨n, hn⟩ : ∃ n : Nat, wrd (nums s) 4 = (n : Int) := ⟨(wrd (nums s) 4).toNat, by omega⟩
  have c4 := fun w => word8_ref s 4 w (by omega) (by omega)
  have c8 := fun w => word8_ref s 8 w (by omega) (by omega)
  have cx := fun (k : Nat) (w : World) (h : k < n) => word8_ref s (12 + 4 * k) w (by omega) (by omega)
  have hnx := fun (k : Nat) (h : k < n) => icd_next (l := nums s) (n := n) (by omega) h
  obtain ⟨d, hd⟩ : ∃ d : Int, wrd (nums s) 8 = d := ⟨_, rfl⟩
  have hcl : (icd (nums s)).length = n := by have := hib.2.2.2; omega
  have hcw := hib.2.2.1
  rw [hn] at c4 h5 h7 hw4
  rw [hd] at c8 h6 hw8 ⊢
  obtain ⟨code, hcode⟩ : ∃ code, icd (nums s) = code := ⟨_, rfl⟩
  rw [hcode] at hcl hcw hnx ⊢
  have hss : s.size = 12 + 4 * n := by omega
  have u1 : ¬ (s.size : Int) < 12 := by omega
  have u2 : ¬ (16384 : Int) < (n : Int) := by omega
  have u3 : ¬ (32768 : Int) < d := by omega
  have u4 : (s.size : Int) = 12 + 4 * (n : Int) := by omega
  have z1 : IntKind.i64.wrap (n : Int) = (n : Int) := by rw [IntKind.wrap_i64]; omega
  have z2 : IntKind.i64.wrap d = d := by rw [IntKind.wrap_i64]; omega
  obtain ⟨z0, hz, hz0, hz1, hz2⟩ := info_parts infoU32
  have C4 := Lib.hid c4
  have C8 := Lib.hid c8
  have CX := Lib.hid cx
  have HNX := Lib.hid hnx
  have HCL := Lib.hid hcl
  have HCW := Lib.hid hcw
  have HK := Lib.hid ((Kx.nil none w).more (.cells #[.slice none 0 0, .int .i64 0] 24 (0, 0)))
  clear c4 c8 cx hnx hcl hcw hib hi hl hw4 hw8 hn hd hcode h7 h1
  go_enter Try.func18, Try.ntmps18
  go_wp2_with fail
  refine (C4.out _).mono ?_
  rintro e w1 ⟨rfl, hb⟩
  replace HK := Lib.hid (HK.out.after hb)
  clear hb
  go_wp2_with fail
  refine (C8.out _).mono ?_
  rintro e w2 ⟨rfl, hb⟩
  replace HK := Lib.hid (HK.out.after hb)
  clear hb
  go_wp2_with fail
  have HW : Hid (Rw w (w2.alloc (.cells #[.slice none 0 0, .int .i64 d] 24)) w2.heap.size d (.slice none 0 0) []) :=
    Lib.hid ⟨HK.out.more (.cells #[.slice none 0 0, .int .i64 d] 24 (0, 0)), World.ownsRow_nil _ _ _ _, HK.out.lt 0 rfl⟩
  clear HK
  obtain ⟨q, hq⟩ : ∃ q, w2.heap.size = q := ⟨_, rfl⟩
  rw [hq] at HW
  simp only [hq]
  go_loopw [7] (fun v wr => ∃ (k : Nat) (V : Value) (xs : List Int), k ≤ n ∧ v = .int .i64 (k : Int) ∧ Hid (code.take k = xs) ∧ Hid (Rw w wr q d V xs)) (fun v _ => n - (intOf v).toNat)
  case atStart => exact ⟨0, _, _, Nat.zero_le _, rfl, Lib.hid rfl, HW⟩
  case round =>
    clear HW
    obtain ⟨k, V, xs, hk, rfl, HX, HW⟩ := hrel
    have hxl : xs.length = k := by rw [← HX.out, List.length_take, HCL.out]; omega
    by_cases hlt : k < n
    · have i1 : (k : Int) < (n : Int) := by omega
      have y1 : IntKind.i64.wrap (4 * (k : Int)) = 4 * (k : Int) := by rw [IntKind.wrap_i64]; omega
      have y2 : IntKind.i64.wrap (12 + 4 * (k : Int)) = 12 + 4 * (k : Int) := by rw [IntKind.wrap_i64]; omega
      have y3 : (k : Int) ≤ 16384 := by omega
      have c := fun w => CX.out k w hlt
      rw [show ((12 + 4 * k : Nat) : Int) = 12 + 4 * (k : Int) from by omega] at c
      have hx := HNX.out k hlt
      rw [HX.out] at hx
      obtain ⟨x, ex⟩ : ∃ x, wrd (nums s) (12 + 4 * k) = x := ⟨_, rfl⟩
      rw [ex] at c hx
      have C := Lib.hid c
      replace HX := Lib.hid hx
      clear c hx ex
      go_wp2_with fail
      have a0 := HW.out.drew.cell
      go_region_law (first
        | (go_simp; go_at_call 25; (with_reducible refine (C.out _).mono ?_); rintro e w' ⟨rfl, hb⟩; replace HW := Lib.hid (HW.out.drew.after hb); clear hb a0; have a0 := HW.out.cell; have a1 := (HW.out.alloc (.cells #[.int .u32 x] 35 (0, 0))).cell)
        | (refine step_append_lies _ (by rfl) _ _ _ (by rfl) (q + 1) 35 z0 _ 1 4 Try.underlying22 hz hz0 hz1 hz2 rfl (by omega) _ xs.length (xs.map (Value.int .u32)) (by rfl) (HW.out.alloc _).o
            ⟨_, 0, none⟩ 1 1 [.int .u32 x] (by rfl) (by rfl)
            (World.news_of_block (cs := #[.int .u32 x]) (t := 35) (fr := (0, 0)) (heap_alloc_new _ _)) (by simp [Value.oneCell'])
            (by omega) (by unfold maxLen; omega) (by omega) (by have := HW.out.k.lt 1 rfl; simp; omega) _ rfl ?_; intro gg cap2 w4 hown hgrow hat hlt1; obtain ⟨b0, b1⟩ := (HW.out.alloc _).grown hgrow))
      all_goals
        have ho : w4.ownsRow (q + 1) 35 1 (.slice (some ⟨gg, 0, none⟩) (k + 1) cap2) (xs ++ [x]).length ((xs ++ [x]).map (Value.int .u32)) := by
          rw [hxl] at hown
          rw [List.length_append, List.map_append, hxl]
          exact hown
        have HW2 := Lib.hid ((HW.out.alloc _).put hgrow ho)
        clear hown hgrow hat hlt1 ho HW a0 a1 b0 b1
        go_wp2_with fail
        go_roundw
        case rel => exact ⟨k + 1, _, xs ++ [x], by omega, by go_num, HX, HW2⟩
        case measure => simp [intOf]; omega
    · obtain rfl : k = n := by omega
      obtain rfl : code = xs := by rw [← HX.out, List.take_of_length_le (by rw [HCL.out]; omega)]
      have v1 : ¬ (k : Int) < (k : Int) := by omega
      obtain ⟨A, m, c, rfl⟩ := HW.out.shape
      obtain ⟨a0, a1, _⟩ := cells2 (HW.out.k.at 1 rfl)
      obtain ⟨b0, b1, b2, b3⟩ := cells2 (HW.out.k.at 0 rfl)
      have HF := Lib.hid (HW.out.k.put2 0 rfl (.inr (Nat.le_refl _)) (.slice A m c) (.int .i64 d))
      have HI := Lib.hid (HW.out.out HCW.out (.int .i64 d))
      clear HX HW
      go_wp2_with fail
      exact bodyPost_ret (v := .tuple #[.agg #[.slice A m c, .int .i64 d], .int .i64 0]) (by
        obtain ⟨k0, k1, _⟩ := cells2 (HF.out.at 0 rfl)
        simp [results, go_sem, k0, k1]) rfl ⟨_, rfl, HI.out, HF.out.be.plain⟩
end Go.Proofs.Ytmifiadkhmglmaa
