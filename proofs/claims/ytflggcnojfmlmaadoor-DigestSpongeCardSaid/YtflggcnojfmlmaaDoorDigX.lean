/- Package digest: the contracts of Text and Parse. -/
import Derived.Test.YtflggcnojfmlmaaDoorDigV
import Derived.Test.YtflggcnojfmlmaaDoorOwn4
import Derived.Test.YtflggcnojfmlmaaDoorHexB
set_option linter.unusedVariables false
namespace Go.Proofs.YtflggcnojfmlmaaDoor
open Go.RowKit

/-- The bytes of words, each from its highest one to its lowest one. -/
theorem cells_arr4 (w : World) (t : TypeId) (v0 v1 v2 v3 : Int) : ∀ j, j < 4 → (w.alloc (.cells #[.int .u32 v0, .int .u32 v1, .int .u32 v2, .int .u32 v3] t)).cell? ⟨w.heap.size, 0 + j, none⟩ = some (.int .u32 ([v0, v1, v2, v3].getD j 0)) := by
  intro j hj
  match j, hj with
  | 0, _ => simp
  | 1, _ => simp
  | 2, _ => simp
  | 3, _ => simp

theorem reversed_arr (w : World) {a0 a1 a2 a3 : Int} (hl : Ok4 [a0, a1, a2, a3]) :
    Calls Tryd.prog 16 #[.slice (some ⟨w.heap.size, 0, none⟩) 4 4] (w.alloc (.cells #[.int .u32 a0, .int .u32 a1, .int .u32 a2, .int .u32 a3] 29)) fun e w' => e = .returned (.slice (some ⟨w.heap.size + 1, 0, none⟩) 4 4) ∧
      w'.ownsRow (w.heap.size + 1) 25 1 (.slice (some ⟨w.heap.size + 1, 0, none⟩) 4 4) 4 (([a0, a1, a2, a3].map rv).map (Value.int .u32)) ∧ Below w.heap.size w w' ∧ w.heap.size + 1 < w'.heap.size := by
  have h := reversed_row w.heap.size 0 4 4 [a0, a1, a2, a3] (w.alloc (.cells #[.int .u32 a0, .int .u32 a1, .int .u32 a2, .int .u32 a3] 29)) rfl (by omega) (by simp) (cells_arr4 w _ a0 a1 a2 a3) (getD4 hl)
  rw [World.size_alloc] at h
  refine h.mono fun e w' ⟨he, ho, hb⟩ => ⟨he, ho, ((Below.refl _ w).alloc (Nat.le_refl _) _).trans (hb.mono (by omega)), (ho.lt (w.heap.size + 1) rfl).2⟩

set_option maxHeartbeats 800000 in
theorem text_code (l : Ws) (w : World) (hl : Ok4 l) (ht : Tabs w) :
    Calls Tryd.prog 8 #[ag l] w fun e w' => e = .returned (.string (dtx l)) ∧ Below w.heap.size w w' := by
  have hr := rv_ok4 hl
  have hs := size_big l
  rw [hl.1] at hs
  have c3 := fun w ht => text_hex (big l) w (by omega) ht
  obtain ⟨T, hT⟩ : ∃ T, dtx l = T := ⟨_, rfl⟩
  rw [show (⟨(txt (big l).data.toList).toArray⟩ : ByteArray) = T from hT] at c3
  rw [hT]
  obtain ⟨S, hS⟩ : ∃ S, big l = S := ⟨_, rfl⟩
  rw [hS] at c3
  have hb : strOfNums (bytsAll (l.map rv)) = S := hS
  obtain ⟨a0, a1, a2, a3, rfl, h0, h1, h2, h3⟩ := ok4 hl
  rw [ag4]
  have C1 := Lib.hid (fun (w : World) => reversed_arr w hl)
  have C2 := Lib.hid (fun (w w' : World) (B g : Nat) (hg : g < w'.heap.size) (h : w'.ownsRow B 25 1 (.slice (some ⟨g, 0, none⟩) 4 4) 4 (([a0, a1, a2, a3].map rv).map (Value.int .u32))) => bytes_row g 0 4 4 ([a0, a1, a2, a3].map rv) w' rfl (by omega) (by omega) hg (cells_own4 h) (getD4 hr))
  rw [hb] at C2
  have C3 := Lib.hid c3
  have HT := Lib.hid ht
  clear c3 hT hS hb hl hr hs ht h0 h1 h2 h3
  go_enter Tryd.func8, Tryd.ntmps8
  go_wp2_with fail
  refine (C1.out _).mono ?_
  rintro e w1 ⟨rfl, o1, b1, hlt⟩
  have k1 := Lib.hid b1
  have O1 := Lib.hid o1
  clear o1 b1
  go_wp2_with fail
  refine (C2.out w1 w1 _ _ hlt O1.out).mono ?_
  rintro e w2 ⟨rfl, b2⟩
  have k2 := Lib.hid (k1.out.trans (b2.mono k1.out.size))
  have T2 := Lib.hid (HT.out.below k2.out)
  go_wp2_with fail
  refine (C3.out _ T2.out).mono ?_
  rintro e w3 ⟨rfl, b3⟩
  have k3 := k2.out.trans (b3.mono k2.out.size)
  go_wp2
  go_ret
  exact ⟨rfl, k3⟩
/-- Room for a digest in a call's first block. -/
structure R1 (w W : World) : Prop where
  hz : W.heap[w.heap.size]? = some (.cells #[.int .u32 0, .int .u32 0, .int .u32 0, .int .u32 0] 29 (0, 0))
  be : Below w.heap.size w W
  sz : w.heap.size < W.heap.size
theorem R1.after {w W W' : World} (h : R1 w W) (hb : Below W.heap.size W W') : R1 w W' := by
  have hs := h.sz
  have hs2 := hb.size
  exact ⟨by rw [hb.block _ hs]; exact h.hz, h.be.trans (hb.mono (by omega)), by omega⟩
theorem R1.new (w : World) : R1 w (w.alloc (.cells #[.int .u32 0, .int .u32 0, .int .u32 0, .int .u32 0] 29)) :=
  ⟨heap_alloc_new _ _, (Below.refl _ w).alloc (Nat.le_refl _) _, by simp⟩

/-- What a text is read as: the digest, the error. -/
def prd (l : List UInt8) : Ws × Int := if l.length = 32 ∧ nd l = 32 then ((wdsL (nums ⟨(load l).toArray⟩)).map rv, 0) else ([0, 0, 0, 0], 3)
theorem prd_bad {l : List UInt8} (h : l.length ≠ 32 ∨ nd l ≠ 32) : prd l = ([0, 0, 0, 0], 3) := by
  unfold prd
  rw [if_neg (by omega)]
theorem prd_ok {l : List UInt8} (h : l.length = 32) (h2 : nd l = 32) : prd l = ((wdsL (nums ⟨(load l).toArray⟩)).map rv, 0) := by
  unfold prd
  rw [if_pos ⟨h, h2⟩]
theorem load16 {l : List UInt8} (h : l.length = 32) (h2 : nd l = 32) : (load l).length = 16 := by
  have := load_full l (by omega)
  omega
theorem words4 {l : List UInt8} (h : l.length = 32) (h2 : nd l = 32) : ∃ v0 v1 v2 v3, wdsL (nums ⟨(load l).toArray⟩) = [v0, v1, v2, v3] ∧ Ok4 [v0, v1, v2, v3] := by
  have hl := load16 h h2
  have hn : (nums ⟨(load l).toArray⟩).length = 4 * 4 := by rw [length_nums, size_mk, hl]
  have hw := length_wdsL 4 _ hn
  have ho := wdsL_word 4 _ hn (nums_byte _)
  obtain ⟨v0, v1, v2, v3, e, _⟩ := ok4 (l := wdsL (nums ⟨(load l).toArray⟩)) ⟨hw, fun x hx => ⟨(ho x hx).1, by have := (ho x hx).2; omega⟩⟩
  exact ⟨v0, v1, v2, v3, e, by rw [← e]; exact ⟨hw, fun x hx => ⟨(ho x hx).1, by have := (ho x hx).2; omega⟩⟩⟩

theorem ret_prd {a b : Value} {x y : Int} (h : a = b) (h' : x = y) : Ending.returned (.tuple #[a, .int .i64 x]) = .returned (.tuple #[b, .int .i64 y]) := by rw [h, h']

set_option maxHeartbeats 800000 in
theorem parse_bad (t : ByteArray) (w : World) (ht : Tabs w) (h : t.size ≠ 32 ∨ nd t.data.toList ≠ 32) :
    Calls Tryd.prog 7 #[.string t] w fun e w' => e = .returned (.tuple #[.agg #[.int .u32 0, .int .u32 0, .int .u32 0, .int .u32 0], .int .i64 3]) ∧ Below w.heap.size w w' := by
  have HR := Lib.hid (R1.new w)
  by_cases h1 : t.size = 32
  · have hn := nd_le t.data.toList
    rw [list_size] at hn
    have c1 := fun w ht => parse_hex_bad t w (by omega) ht (.inl (by omega))
    obtain ⟨n, hn2⟩ : ∃ n, nd t.data.toList = n := ⟨_, rfl⟩
    rw [hn2] at c1
    have C1 := Lib.hid c1
    have HT := Lib.hid ht
    have hi : (t.size : Int) = 32 := by omega
    have e1 : ((t.size : Int) != 32) = false := by rw [hi]; rfl
    clear c1 ht h hn hn2
    go_enter Tryd.func7, Tryd.ntmps7
    go_wp2_with fail
    refine (C1.out _ (HT.out.below HR.out.be)).mono ?_
    rintro e w2 ⟨rfl, b2⟩
    replace HR := Lib.hid (HR.out.after b2)
    obtain ⟨c0, c1, c2, c3, d0, d1, d2, d3⟩ := cells4 HR.out.hz
    clear b2
    go_wp2
    exact bodyPost_ret (v := .tuple #[.agg #[.int .u32 0, .int .u32 0, .int .u32 0, .int .u32 0], .int .i64 3]) (by
      obtain ⟨k0, k1, k2, k3, _⟩ := cells4 (row4 HR.out.hz (.int .u32 0) (.int .u32 0) (.int .u32 0) (.int .u32 0))
      simp [results, go_sem, k0, k1, k2, k3]) rfl ⟨rfl, below_row4 HR.out.be (by omega) _ _ _ _⟩
  · have e1 : ((t.size : Int) != 32) = true := by rw [bne_iff_ne]; omega
    clear ht h
    go_enter Tryd.func7, Tryd.ntmps7
    go_wp2
    exact bodyPost_ret (v := .tuple #[.agg #[.int .u32 0, .int .u32 0, .int .u32 0, .int .u32 0], .int .i64 3]) (by simp [results, go_sem]) rfl ⟨rfl, HR.out.be⟩

set_option maxHeartbeats 1600000 in
theorem parse_good (t : ByteArray) (w : World) (ht : Tabs w) (h : t.size = 32) (h2 : nd t.data.toList = 32) :
    Calls Tryd.prog 7 #[.string t] w fun e w' => e = .returned (.tuple #[ag ((wdsL (nums ⟨(load t.data.toList).toArray⟩)).map rv), .int .i64 0]) ∧ Below w.heap.size w w' := by
  have HR := Lib.hid (R1.new w)
  have hl : t.data.toList.length = 32 := by rw [list_size]; exact h
  have c1 := fun w ht => parse_hex_ok t w (by omega) ht (by omega) (by omega)
  obtain ⟨v0, v1, v2, v3, hv, hok⟩ := words4 hl h2
  have hsz : (⟨(load t.data.toList).toArray⟩ : ByteArray).size = 4 * 4 := by rw [size_mk, load16 hl h2]
  obtain ⟨S, hS⟩ : ∃ S : ByteArray, (⟨(load t.data.toList).toArray⟩ : ByteArray) = S := ⟨_, rfl⟩
  rw [hS] at c1 hv hsz ⊢
  have c2 := fun w => words_any S 4 w (by omega) hsz
  rw [hv] at c2 ⊢
  have hr := rv_ok4 hok
  show Calls Tryd.prog 7 #[.string t] w fun e w' => e = .returned (.tuple #[ag [rv v0, rv v1, rv v2, rv v3], .int .i64 0]) ∧ Below w.heap.size w w'
  rw [ag4]
  have C1 := Lib.hid c1
  have C2 := Lib.hid c2
  have C3 := Lib.hid (fun (w : World) (B g : Nat) (hg : g < w.heap.size) (h : w.ownsRow B 25 1 (.slice (some ⟨g, 0, none⟩) 4 4) 4 ([v0, v1, v2, v3].map (Value.int .u32))) => reversed_row g 0 4 4 [v0, v1, v2, v3] w rfl (by omega) hg (cells_own4 h) (getD4 hok))
  have HT := Lib.hid ht
  have hi : (t.size : Int) = 32 := by omega
  have e1 : ((t.size : Int) != 32) = false := by rw [hi]; rfl
  clear c1 c2 ht h hl h2 hv hok hsz hS hr
  go_enter Tryd.func7, Tryd.ntmps7
  go_wp2_with fail
  refine (C1.out _ (HT.out.below HR.out.be)).mono ?_
  rintro e w2 ⟨rfl, b2⟩
  replace HR := Lib.hid (HR.out.after b2)
  clear b2
  go_wp2_with fail
  refine (C2.out _).mono ?_
  rintro e w3 ⟨rfl, o3, b3⟩
  replace HR := Lib.hid (HR.out.after b3)
  have hg := (o3.lt w2.heap.size rfl).2
  have O3 := Lib.hid o3
  clear b3 o3
  go_wp2_with fail
  refine (C3.out _ _ _ hg O3.out).mono ?_
  rintro e w4 ⟨rfl, o4, b4⟩
  replace HR := Lib.hid (HR.out.after b4)
  have q := cells_own4 (v0 := rv v0) (v1 := rv v1) (v2 := rv v2) (v3 := rv v3) o4
  have q0 : w4.cell? ⟨w3.heap.size, 0, none⟩ = some (.int .u32 (rv v0)) := q 0 (by omega)
  have q1 : w4.cell? ⟨w3.heap.size, 1, none⟩ = some (.int .u32 (rv v1)) := q 1 (by omega)
  have q2 : w4.cell? ⟨w3.heap.size, 2, none⟩ = some (.int .u32 (rv v2)) := q 2 (by omega)
  have q3 : w4.cell? ⟨w3.heap.size, 3, none⟩ = some (.int .u32 (rv v3)) := q 3 (by omega)
  clear b4 o4 q
  obtain ⟨c0, c1, c2, c3, d0, d1, d2, d3⟩ := cells4 HR.out.hz
  go_wp2_with fail
  go_region
  all_goals
    go_wp2_with fail
    exact bodyPost_ret (v := .tuple #[.agg #[.int .u32 (rv v0), .int .u32 (rv v1), .int .u32 (rv v2), .int .u32 (rv v3)], .int .i64 0]) (by
      obtain ⟨k0, k1, k2, k3, _⟩ := cells4 (row4 HR.out.hz (.int .u32 (rv v0)) (.int .u32 (rv v1)) (.int .u32 (rv v2)) (.int .u32 (rv v3)))
      simp [results, go_sem, k0, k1, k2, k3]) rfl ⟨rfl, (below_row4 HR.out.be (Nat.le_refl _) _ _ _ _).drew⟩
theorem parse_code (t : ByteArray) (w : World) (ht : Tabs w) :
    Calls Tryd.prog 7 #[.string t] w fun e w' => e = .returned (.tuple #[ag (prd t.data.toList).1, .int .i64 (prd t.data.toList).2]) ∧ Below w.heap.size w w' := by
  by_cases h : t.size = 32
  · by_cases h2 : nd t.data.toList = 32
    · rw [prd_ok (by rw [list_size]; exact h) h2]
      exact parse_good t w ht h h2
    · rw [prd_bad (.inr h2)]
      exact parse_bad t w ht (.inr h2)
  · rw [prd_bad (.inl (by rw [list_size]; exact h))]
    exact parse_bad t w ht (.inl h)
end Go.Proofs.YtflggcnojfmlmaaDoor
