/- The reference of layer 3: the contracts of its Text and Parse. -/
import Derived.Test.YtnobnnbckehikaaDoorDigQ
import Derived.Test.YtnobnnbckehikaaDoorGet4
import Derived.Test.YtnobnnbckehikaaDoorRv
import Derived.Test.YtnobnnbckehikaaDoorHexS
set_option linter.unusedVariables false
namespace Go.Proofs.YtnobnnbckehikaaDoor
open Go.RowKit

theorem conv4 (W : World) (a b c d : Int) : (convert 55 9 (.slice (some ⟨W.heap.size, 0, none⟩) 4 4)).run Tryd.prog (W.alloc (.cells #[.int .u8 a, .int .u8 b, .int .u8 c, .int .u8 d] 5)) = .ok (.string (strOfNums [a, b, c, d])) (W.alloc (.cells #[.int .u8 a, .int .u8 b, .int .u8 c, .int .u8 d] 5)) := by
  have h := run_convert_bytes_arg (P := Tryd.prog) (W.alloc (.cells #[.int .u8 a, .int .u8 b, .int .u8 c, .int .u8 d] 5)) 55 5 Tryd.underlying55 Tryd.underlying5 W.heap.size 0 4 4 [a, b, c, d] (by simp) (by
    intro i hi
    match i, hi with
    | 0, _ => simp
    | 1, _ => simp
    | 2, _ => simp
    | 3, _ => simp) 9 Tryd.underlying9
  exact h
theorem conv4d (W : World) (a b c d : Int) : (convert 55 9 (.slice (some ⟨W.heap.size, 0, none⟩) 4 4)).run Tryd.prog (W.alloc (.cells #[.int .u8 a, .int .u8 b, .int .u8 c, .int .u8 d] 5)).drew = .ok (.string (strOfNums [a, b, c, d])) (W.alloc (.cells #[.int .u8 a, .int .u8 b, .int .u8 c, .int .u8 d] 5)).drew := by
  have h := run_convert_bytes_arg (P := Tryd.prog) (W.alloc (.cells #[.int .u8 a, .int .u8 b, .int .u8 c, .int .u8 d] 5)).drew 55 5 Tryd.underlying55 Tryd.underlying5 W.heap.size 0 4 4 [a, b, c, d] (by simp) (by
    intro i hi
    match i, hi with
    | 0, _ => simp
    | 1, _ => simp
    | 2, _ => simp
    | 3, _ => simp) 9 Tryd.underlying9
  exact h

/-- A digest stands in a call's first block. -/
structure D1 (w W : World) (a0 a1 a2 a3 : Int) : Prop where
  ha : W.heap[w.heap.size]? = some (.cells #[.int .u32 a0, .int .u32 a1, .int .u32 a2, .int .u32 a3] 24 (0, 0))
  be : Below w.heap.size w W
  sz : w.heap.size < W.heap.size
theorem D1.after {w W W' : World} {a0 a1 a2 a3 : Int} (h : D1 w W a0 a1 a2 a3) (hb : Below W.heap.size W W') : D1 w W' a0 a1 a2 a3 := by
  have hs := h.sz
  have hs2 := hb.size
  exact ⟨by rw [hb.block _ hs]; exact h.ha, h.be.trans (hb.mono (by omega)), by omega⟩
theorem D1.new (w : World) (a0 a1 a2 a3 : Int) : D1 w (w.alloc (.cells #[.int .u32 a0, .int .u32 a1, .int .u32 a2, .int .u32 a3] 24)) a0 a1 a2 a3 :=
  ⟨heap_alloc_new _ _, (Below.refl _ w).alloc (Nat.le_refl _) _, by simp⟩

/-- A word's bytes, from the highest one to the lowest one. -/
def be4 (x : Int) : List Int := [x / 16777216, x / 65536 % 256, x / 256 % 256, x % 256]
theorem byts_rv {x : Int} (h : W32 x) : byts (rv x) = be4 x := by
  obtain ⟨b0, b1, b2, b3, h0, h1, h2, h3, rfl⟩ := digs h
  rw [rv_digs h0 h1 h2 h3]
  unfold byts be4
  rw [show (b3 + b2 * 256 + b1 * 65536 + b0 * 16777216) % 256 = b3 by omega, show (b3 + b2 * 256 + b1 * 65536 + b0 * 16777216) / 256 % 256 = b2 by omega, show (b3 + b2 * 256 + b1 * 65536 + b0 * 16777216) / 65536 % 256 = b1 by omega, show (b3 + b2 * 256 + b1 * 65536 + b0 * 16777216) / 16777216 = b0 by omega,
    show (b0 + b1 * 256 + b2 * 65536 + b3 * 16777216) % 256 = b0 by omega, show (b0 + b1 * 256 + b2 * 65536 + b3 * 16777216) / 256 % 256 = b1 by omega, show (b0 + b1 * 256 + b2 * 65536 + b3 * 16777216) / 65536 % 256 = b2 by omega, show (b0 + b1 * 256 + b2 * 65536 + b3 * 16777216) / 16777216 = b3 by omega]
theorem str_append (xs ys : List Int) : strOfNums (xs ++ ys) = strOfNums xs ++ strOfNums ys := by
  apply ByteArray.ext
  simp [strOfNums]
theorem big4 {a0 a1 a2 a3 : Int} (h0 : W32 a0) (h1 : W32 a1) (h2 : W32 a2) (h3 : W32 a3) : big [a0, a1, a2, a3] = (((⟨#[]⟩ : ByteArray) ++ strOfNums (be4 a0)) ++ strOfNums (be4 a1)) ++ strOfNums (be4 a2) ++ strOfNums (be4 a3) := by
  unfold big
  simp only [List.map_cons, List.map_nil, bytsAll, byts_rv h0, byts_rv h1, byts_rv h2, byts_rv h3, List.append_nil]
  rw [str_append, str_append, str_append]
  apply ByteArray.ext
  simp

theorem D1.cell {w W : World} {a0 a1 a2 a3 : Int} (h : D1 w W a0 a1 a2 a3) (k : Nat) (hk : k < 4) : W.cell? ⟨w.heap.size, k, none⟩ = some (.int .u32 ([a0, a1, a2, a3].getD k 0)) := by
  obtain ⟨c0, c1, c2, c3, _⟩ := cells4 h.ha
  match k, hk with
  | 0, _ => exact c0
  | 1, _ => exact c1
  | 2, _ => exact c2
  | 3, _ => exact c3
theorem bytsAll_next (l : Ws) (k : Nat) (h : k < l.length) (hw : W32 (l.getD k 0)) : strOfNums (bytsAll ((l.map rv).take (k + 1))) = strOfNums (bytsAll ((l.map rv).take k)) ++ strOfNums (be4 (l.getD k 0)) := by
  rw [take_snoc_map l k h, bytsAll_append, str_append]
  simp only [bytsAll, List.append_nil, byts_rv hw]
theorem cat4 {s : ByteArray} {n : Nat} (h : s.size = n) (a b c d : Int) : (s ++ strOfNums [a, b, c, d]).size = n + 4 := by rw [ByteArray.size_append, h, strOfNums_size]; rfl

set_option maxHeartbeats 1000000 in
theorem dtext_ref (l : Ws) (w : World) (hl : Ok4 l) :
    Calls Tryd.prog 27 #[ag l] w fun e w' => e = .returned (.string (dtx l)) ∧ Below w.heap.size w w' := by
  have hs := size_big l
  rw [hl.1] at hs
  have c3 := fun w => text_ref (big l) w (by omega)
  obtain ⟨T, hT⟩ : ∃ T, dtx l = T := ⟨_, rfl⟩
  rw [show (⟨(txt (big l).data.toList).toArray⟩ : ByteArray) = T from hT] at c3
  rw [hT]
  obtain ⟨a0, a1, a2, a3, rfl, h0, h1, h2, h3⟩ := ok4 hl
  have hbig : big [a0, a1, a2, a3] = strOfNums (bytsAll (([a0, a1, a2, a3].map rv).take 4)) := rfl
  rw [hbig] at c3
  have C3 := Lib.hid c3
  have HN := Lib.hid (bytsAll_next [a0, a1, a2, a3])
  have HG := Lib.hid (getD4 hl)
  rw [ag4]
  have HD := Lib.hid (D1.new w a0 a1 a2 a3)
  clear c3 hs hT hl h0 h1 h2 h3 hbig
  have z1 : ∀ a b c d : Int, (strOfNums [a, b, c, d]).size = 4 := fun a b c d => strOfNums_size _
  go_enter Tryd.func27, Tryd.ntmps27
  go_wp2
  go_loopw [3, 4] (fun sb si wr => ∃ (k : Nat) (s : ByteArray), k ≤ 4 ∧ si = .int .i64 k ∧ sb = .string s ∧ s.size = 4 * k ∧ Hid (s = strOfNums (bytsAll (([a0, a1, a2, a3].map rv).take k))) ∧ Hid (D1 w wr a0 a1 a2 a3)) (fun _ si _ => 4 - (intOf si).toNat)
  case atStart => exact ⟨0, ⟨#[]⟩, by omega, rfl, rfl, rfl, rfl, HD⟩
  case round =>
    obtain ⟨k, s, hk, rfl, rfl, hss, HX, HD2⟩ := hrel
    by_cases hlt : k < 4
    · have hi0 : (0 : Int) ≤ (k : Int) := by omega
      have hi1 : (k : Int) < 4 := by omega
      have hsi : (s.size : Int) ≤ 16 := by omega
      have cz := HD2.out.cell k hlt
      have hz := HG.out k
      have hn := HN.out k hlt
      obtain ⟨z, hzz⟩ : ∃ z, [a0, a1, a2, a3].getD k 0 = z := ⟨_, rfl⟩
      rw [hzz] at cz hz hn
      obtain ⟨z0, z9⟩ := hz
      have HNN := Lib.hid (hn ⟨z0, by omega⟩)
      have hcat := cat4 hss (z / 16777216) (z / 65536 % 256) (z / 256 % 256) (z % 256)
      have HSS := Lib.hid hcat
      have v2 := conv4d wr
      clear hn hzz hcat
      go_wp2
      go_region
      obtain ⟨s2, hs2⟩ : ∃ x : ByteArray, s ++ strOfNums [z / 16777216, z / 65536 % 256, z / 256 % 256, z % 256] = x := ⟨_, rfl⟩
      rw [hs2] at HSS ⊢
      have hx2 : s2 = strOfNums (bytsAll (([a0, a1, a2, a3].map rv).take (k + 1))) := by
        rw [HNN.out, ← HX.out, ← hs2]
        simp only [be4]
      have HX2 := Lib.hid hx2
      clear hx2 hs2
      go_wp2
      go_roundw
      case rel => exact ⟨k + 1, s2, by omega, by go_num, rfl, by rw [HSS.out]; omega, HX2, Lib.hid (HD2.out.after ((Below.refl _ _).alloc (Nat.le_refl _) _).drew)⟩
      case measure => simp [intOf]; omega
    · obtain rfl : k = 4 := by omega
      have hc := C3.out wr
      rw [← HX.out] at hc
      have HC := Lib.hid hc
      clear hc
      go_wp2_with fail
      refine HC.out.mono ?_
      rintro e w6 ⟨rfl, b6⟩
      have hb := (HD2.out.after b6).be
      go_wp2
      go_ret
      exact ⟨rfl, hb⟩
end Go.Proofs.YtnobnnbckehikaaDoor
