/- Layer 8 (image): the contract of Read over the program's code. -/
import Derived.Test.YtmifiadkhmglmaaImgR
import Derived.Test.YtmifiadkhmglmaaImgU
set_option linter.unusedVariables false
namespace Go.Proofs.Ytmifiadkhmglmaa
open Go.RowKit Go.Shelf
attribute [local go_sem] Oper.semAt_some

theorem wfs_take (s : ByteArray) (m : Nat) (h : s.size = 4 * m) : ∀ k, k ≤ m → (wfs s k).map (·.1) = (wdsL (nums s)).take k
  | 0, _ => rfl
  | k + 1, hk => by
    have hl := length_wdsL m (nums s) (by rw [length_nums]; exact h)
    rw [wfs_succ, List.map_append, wfs_take s m h k (by omega), take_more _ _ (by omega), wdsL_at _ _ (by rw [length_nums]; omega)]
    rfl
theorem wfs_all (s : ByteArray) (m : Nat) (h : s.size = 4 * m) : (wfs s m).map (·.1) = wdsL (nums s) := by
  have hl := length_wdsL m (nums s) (by rw [length_nums]; exact h)
  rw [wfs_take s m h m (Nat.le_refl _), List.take_of_length_le (by omega)]
theorem wfs_cells (s : ByteArray) (k : Nat) : (wfs s k).map (fun x => Value.int .u32 x.1) = ((wfs s k).map (·.1)).map (Value.int .u32) := by
  rw [List.map_map]; rfl
theorem wdsL_drop2 (l : List Int) (h : 8 ≤ l.length) : wdsL (l.drop 8) = (wdsL l).drop 2 := by
  match l, h with
  | _ :: _ :: _ :: _ :: _ :: _ :: _ :: _ :: r, _ => rfl
theorem rs8_nums {s : ByteArray} (h : mk8 s = true) : nums (rs8 s) = (nums s).drop 4 := by
  unfold rs8
  rw [if_pos h, nums_extract, List.take_of_length_le (by rw [length_nums]; exact Nat.le_refl _)]
theorem rs8_size {s : ByteArray} (h : mk8 s = true) : (rs8 s).size = s.size - 4 := by
  rw [← length_nums, rs8_nums h, List.length_drop, length_nums]
/-- What fromWords tells of the words behind the mark is what Read tells. -/
theorem read_words {s : ByteArray} (h : mk8 s = true) (hs : s.size ≤ 65548) {m : Nat} (hm : s.size = 4 + 4 * m) :
    rde s = fwe (wdsL (nums (rs8 s))) ∧ rdc s = fwc (wdsL (nums (rs8 s))) ∧ rdd s = fwd (wdsL (nums (rs8 s))) := by
  have hl : (wdsL (nums (rs8 s))).length = m := length_wdsL m _ (by rw [length_nums, rs8_size h]; omega)
  obtain ⟨_, g0, g1, g2, g3⟩ := of_decide_eq_true h
  have hln := length_nums s
  by_cases h2 : 2 ≤ m
  · have e0 : (wdsL (nums (rs8 s))).getD 0 0 = wrd (nums s) 4 := by
      rw [rs8_nums h, wdsL_at _ _ (by rw [List.length_drop]; omega), wrd_drop]
    have e1 : (wdsL (nums (rs8 s))).getD 1 0 = wrd (nums s) 8 := by
      rw [rs8_nums h, wdsL_at _ _ (by rw [List.length_drop]; omega), wrd_drop]
    have e2 : (wdsL (nums (rs8 s))).drop 2 = icd (nums s) := by
      rw [rs8_nums h, ← wdsL_drop2 _ (by rw [List.length_drop]; omega), List.drop_drop]
      rfl
    have hi : igo (nums s) = fw8 (wdsL (nums (rs8 s))) := by
      unfold igo fw8
      rw [hl, e0, e1]
      apply decide_eq_decide.2
      constructor
      · rintro ⟨a, _, _, _, _, b, c, d⟩
        exact ⟨h2, by omega, c⟩
      · rintro ⟨_, a, b⟩
        exact ⟨by omega, g0, g1, g2, g3, by omega, b, by omega⟩
    unfold rde rdc rdd fwe fwc fwd
    rw [hi, e1, e2]
    exact ⟨rfl, rfl, rfl⟩
  · have hi : igo (nums s) = false := decide_eq_false (fun hh => by have := hh.1; omega)
    have hf : fw8 (wdsL (nums (rs8 s))) = false := decide_eq_false (fun hh => by have := hh.1; omega)
    obtain ⟨a, b, c⟩ := rd_no hi
    rw [a, b, c]
    unfold fwe fwc fwd
    rw [hf]
    exact ⟨rfl, rfl, rfl⟩
theorem wrap64_id {x : Int} (h0 : 0 ≤ x) (h1 : x < 9223372036854775808) : wrap64 x = x := by
  unfold wrap64
  omega
theorem read_none {s : ByteArray} (h : mk8 s = false ∨ 65548 < s.size ∨ (s.size - 4) % 4 ≠ 0) : igo (nums s) = false := by
  refine decide_eq_false fun hh => ?_
  rw [length_nums] at hh
  obtain ⟨a, g0, g1, g2, g3, b, c, d⟩ := hh
  rcases h with h | h | h
  · exact of_decide_eq_false h ⟨by omega, g0, g1, g2, g3⟩
  · omega
  · have := wrd_bounds (nums_byte s) 4
    omega
set_option maxRecDepth 100000 in
set_option maxHeartbeats 4000000 in
theorem read8_no2 (s : ByteArray) (w : World) (hs : s.size ≤ 1073741824) (h : mk8 s = false ∨ 65548 < s.size ∨ (s.size - 4) % 4 ≠ 0) :
    Calls Try.prog 17 #[.string s] w fun e w' => ∃ v, e = .returned (.tuple #[v, .int .i64 7]) ∧ ImV w' v [] 0 ∧ Below w.heap.size w w' := by
  have HK := Lib.hid ((Kx.nil none w).more (.cells #[.slice none 0 0, .int .i64 0] 24 (0, 0)))
  obtain ⟨a0, a1, a2, a3⟩ := cells2 (HK.out.at 0 rfl)
  have c1 := fun w => cut8 s w hs
  cases hm : mk8 s with
  | false =>
    rw [hm] at c1
    obtain ⟨T, eT⟩ : ∃ T, rs8 s = T := ⟨_, rfl⟩
    rw [eT] at c1
    have C1 := Lib.hid c1
    clear c1 h hm eT
    go_enter Try.func17, Try.ntmps17
    go_wp2_with fail
    refine (C1.out _).mono ?_
    rintro e w1 ⟨rfl, rfl⟩
    go_wp2_with fail
    exact bodyPost_ret (v := .tuple #[.agg #[.slice none 0 0, .int .i64 0], .int .i64 7]) (by
      obtain ⟨k0, k1, _⟩ := cells2 (HK.out.at 0 rfl)
      simp [results, go_sem, k0, k1]) rfl ⟨_, rfl, imv_nil _, HK.out.be.plain⟩
  | true =>
    have hz := rs8_size hm
    rw [hm] at c1 h
    obtain ⟨T, eT⟩ : ∃ T, rs8 s = T := ⟨_, rfl⟩
    rw [eT] at c1 hz
    have C1 := Lib.hid c1
    clear c1 hm eT
    by_cases hb : 65548 < s.size
    · have u1 : (65548 : Int) < (s.size : Int) := by omega
      clear h
      go_enter Try.func17, Try.ntmps17
      go_wp2_with fail
      refine (C1.out _).mono ?_
      rintro e w1 ⟨rfl, rfl⟩
      go_wp2_with fail
      exact bodyPost_ret (v := .tuple #[.agg #[.slice none 0 0, .int .i64 0], .int .i64 7]) (by
        obtain ⟨k0, k1, _⟩ := cells2 (HK.out.at 0 rfl)
        simp [results, go_sem, k0, k1]) rfl ⟨_, rfl, imv_nil _, HK.out.be.plain⟩
    · have u1 : decide ((65548 : Int) < (s.size : Int)) = false := decide_eq_false (by omega)
      have h4 : (s.size - 4) % 4 ≠ 0 := by
        rcases h with h | h | h
        · cases h
        · omega
        · exact h
      obtain ⟨z, ez⟩ : ∃ z, s.size - 4 = z := ⟨_, rfl⟩
      rw [ez] at hz h4
      have u2 : (((z : Int) % 4) != 0) = true := by rw [bne_iff_ne]; omega
      clear h
      go_enter Try.func17, Try.ntmps17
      go_wp2_with fail
      refine (C1.out _).mono ?_
      rintro e w1 ⟨rfl, rfl⟩
      go_wp2_with fail
      exact bodyPost_ret (v := .tuple #[.agg #[.slice none 0 0, .int .i64 0], .int .i64 7]) (by
        obtain ⟨k0, k1, _⟩ := cells2 (HK.out.at 0 rfl)
        simp [results, go_sem, k0, k1]) rfl ⟨_, rfl, imv_nil _, HK.out.be.plain⟩
/-- Read in its loop: its result's block, the variable's box, the row of words that came. -/
structure Rl (w W : World) (q m : Nat) (xs : List U32) : Prop where
  res : W.heap[w.heap.size]? = some (.cells #[.slice none 0 0, .int .i64 0] 24 (0, 0))
  bx : Boxed W q 22 (.slice (some ⟨w.heap.size + 1, 0, none⟩) xs.length m)
  row : W.ownsRow (w.heap.size + 1) 35 1 (.slice (some ⟨w.heap.size + 1, 0, none⟩) xs.length m) xs.length (xs.map fun x => Value.int .u32 x.1)
  be : Below w.heap.size w W
  hq : w.heap.size + 1 < q
theorem Rl.kept {w W W' : World} {q m : Nat} {xs : List U32} (h : Rl w W q m xs) {row : Option Nat} (hg : W.grownBy W' row) (hr : ∀ r, row = some r → q < r) : Rl w W' q m xs := by
  have hq := h.hq
  have f : ∀ i, i ≤ q → some i ≠ row := fun i hi e => by have := hr i e.symm; omega
  have hl := (Array.getElem?_eq_some_iff.1 h.res).1
  exact ⟨(hg.block _ hl (f _ (by omega))).trans h.res, h.bx.kept hg (f _ (Nat.le_refl _)), h.row.kept hg (.inr (f (w.heap.size + 1) (by omega))), h.be.grown hg (by omega) (fun k hk => by have := hr k hk; omega), hq⟩
theorem Rl.step {w W w1 : World} {q m : Nat} {pre : List U32} {x : U32} {tmp : Obj} (h : Rl w W q m pre) (hsz : q + 1 < W.heap.size) (hg : (W.alloc tmp).grownBy w1 (some (w.heap.size + 1)))
    (ho : w1.ownsRow (w.heap.size + 1) 35 1 (.slice (some ⟨w.heap.size + 1, 0, none⟩) (pre.length + 1) m) (pre.length + 1) ((pre.map fun x => Value.int .u32 x.1) ++ [.int .u32 x.1])) :
    KeepsFrom (q + 2) W (w1.setCell ⟨q, 0, none⟩ (.slice (some ⟨w.heap.size + 1, 0, none⟩) (pre.length + 1) m)) ∧
      (w1.setCell ⟨q, 0, none⟩ (.slice (some ⟨w.heap.size + 1, 0, none⟩) (pre.length + 1) m)).heap[q + 1]? = W.heap[q + 1]? ∧
      Rl w (w1.setCell ⟨q, 0, none⟩ (.slice (some ⟨w.heap.size + 1, 0, none⟩) (pre.length + 1) m)) q m (pre ++ [x]) ∧
      w1.cell? ⟨q, 0, none⟩ = some (.slice (some ⟨w.heap.size + 1, 0, none⟩) pre.length m) ∧ w1.frozen? ⟨q, 0, none⟩ = false ∧
      q + 1 < (w1.setCell ⟨q, 0, none⟩ (.slice (some ⟨w.heap.size + 1, 0, none⟩) (pre.length + 1) m)).heap.size := by
  have hq := h.hq
  have hA : ∀ i, i < W.heap.size → (W.alloc tmp).heap[i]? = W.heap[i]? := fun i hi => Below.heap_alloc _ _ _ hi
  have hl1 : W.heap.size < w1.heap.size := by have := hg.size; simp at this; omega
  have h1 : ∀ i, i < W.heap.size → i ≠ w.heap.size + 1 → w1.heap[i]? = W.heap[i]? := fun i hi hne =>
    (hg.block i (by simp; omega) (by simpa using hne)).trans (hA i hi)
  have bx1 : Boxed w1 q 22 (.slice (some ⟨w.heap.size + 1, 0, none⟩) pre.length m) := (h1 q (by omega) (by omega)).trans h.bx
  have hset : ∀ i, i ≠ q → (w1.setCell ⟨q, 0, none⟩ (.slice (some ⟨w.heap.size + 1, 0, none⟩) (pre.length + 1) m)).heap[i]? = w1.heap[i]? := fun i hi => Below.heap_setCell _ _ _ _ hi
  have hl2 : (w1.setCell ⟨q, 0, none⟩ (.slice (some ⟨w.heap.size + 1, 0, none⟩) (pre.length + 1) m)).heap.size = w1.heap.size := by simp [World.setCell]
  refine ⟨⟨by omega, fun i o hi ho2 hc => ?_⟩, ?_, ⟨?_, ?_, ?_, ?_, hq⟩, bx1.cell, bx1.frozen, by omega⟩
  · rw [hset i (by omega), h1 i (Array.getElem?_eq_some_iff.1 ho2).1 (by omega)]
    exact ho2
  · rw [hset _ (by omega), h1 _ hsz (by omega)]
  · rw [hset _ (by omega), h1 _ (by omega) (by omega)]
    exact h.res
  · rw [List.length_append]
    exact bx1.set _
  · rw [List.length_append, List.map_append]
    exact ho.kept (grownBy_setCell' w1 q _) (.inr (by simp [Value.ownBlock]; omega))
  · exact ((h.be.alloc h.be.size tmp).grown hg (by have := h.be.size; simp; omega) (fun k hk => by injection hk; omega)).setCell (p := ⟨q, 0, none⟩) (by show w.heap.size ≤ q; omega) _
set_option maxRecDepth 100000 in
set_option maxHeartbeats 4000000 in
theorem read8_go (s : ByteArray) (w : World) (hs : s.size ≤ 65548) (hm : mk8 s = true) (m : Nat) (h4 : s.size = 4 + 4 * m) :
    Calls Try.prog 17 #[.string s] w fun e w' => ∃ v, e = .returned (.tuple #[v, .int .i64 (fwe (wdsL (nums (rs8 s))))]) ∧ ImV w' v (fwc (wdsL (nums (rs8 s)))) (fwd (wdsL (nums (rs8 s)))) ∧ Below w.heap.size w w' := by
  have c1 := fun w => cut8 s w (by omega)
  have hz := rs8_size hm
  rw [hm] at c1
  obtain ⟨T, eT⟩ : ∃ T, rs8 s = T := ⟨_, rfl⟩
  rw [eT] at c1 hz ⊢
  have hT : T.size = 4 * m := by omega
  have hall := wfs_all T m hT
  obtain ⟨zs, hzs⟩ : ∃ zs, wdsL (nums T) = zs := ⟨_, rfl⟩
  rw [hzs] at hall ⊢
  have hzl : zs.length = m := by rw [← hall, List.length_map, wfs_len]
  have u1 : decide ((65548 : Int) < (s.size : Int)) = false := decide_eq_false (by omega)
  obtain ⟨i0, hi, hz0, hz1, hz2⟩ := info_parts infoU32
  have hmb : m ≤ 16386 := by omega
  have C1 := Lib.hid c1
  have HM := Lib.hid h4
  have HALL := Lib.hid hall
  have HZL := Lib.hid hzl
  have HT := Lib.hid hT
  clear c1 hm eT hz hall hzl h4 hzs
  refine (callsIn_wide (n := 4)).1 ?_
  refine callsIn_of_wp_marks Try.func17 rfl trivial ?_ rfl
  simp only [Try.ntmps17, List.size_toArray, List.length_cons, List.length_nil, Nat.reduceAdd, Nat.reduceSub, Array.replicate_succ, Array.replicate_zero, List.push_toArray, List.append_toArray, List.nil_append, List.cons_append]
  refine wpIn_wide.2 ?_
  go_wp2_with fail
  refine (C1.out _).mono ?_
  rintro e w1 ⟨rfl, rfl⟩
  go_wp2_with (at_make; refine wpList_make_own _ rfl _ _ 22 rfl (w.heap.size + 1) 35 i0 (.int .u32 0) 1 Try.underlying22 hi hz0 hz1 _ _ _ m rfl rfl (by omega) (by rw [hz2]; omega) (by unfold maxLen; omega) (by simp) ?_)
  intro w0 hown0 hgrow0
  obtain ⟨q, hq⟩ : ∃ q, w0.heap.size = q := ⟨_, rfl⟩
  have hR : Rl w (w0.alloc (.cells #[.slice (some ⟨w.heap.size + 1, 0, none⟩) 0 m] 22 (0, 0))) q m [] := by
    have hlt := (hown0.lt (w.heap.size + 1) rfl).2
    have hw0 : w0.heap[w.heap.size]? = some (.cells #[.slice none 0 0, .int .i64 0] 24 (0, 0)) := by
      rw [hgrow0.block _ (by simp) (by simp)]
      exact World.alloc_heap_new w _
    have hbe : Below w.heap.size w w0 := ((Below.refl _ w).alloc (Nat.le_refl _) _).grown hgrow0 (by simp) (fun k hk => by cases hk)
    subst hq
    exact ⟨(Below.heap_alloc _ _ _ (by omega)).trans hw0, Boxed.new _ _ _, hown0.alloc _, hbe.alloc hbe.size _, by omega⟩
  obtain ⟨w2, hw2⟩ : ∃ w2, w0.alloc (.cells #[.slice (some ⟨w.heap.size + 1, 0, none⟩) 0 m] 22 (0, 0)) = w2 := ⟨_, rfl⟩
  have hsz : w2.heap.size = q + 1 := by rw [← hw2]; simp; omega
  rw [hw2] at hR
  clear hown0 hgrow0
  have HR := Lib.hid hR
  clear hR
  go_wp2_with fail
  refine (callsIn_wide.1 (words_in 4 T w2)).mono ?_
  rintro e w3 ⟨rfl, hw3⟩
  have hbx : w3.heap[q + 1]? = some (.cells #[.string T] 9 (0, 0)) := by
    rw [hw3, ← hsz]
    exact World.alloc_heap_new w2 _
  have hs3 : w3.heap.size = q + 2 := by rw [hw3]; simp; omega
  have hR3 : Rl w w3 q m [] := HR.out.kept (row := none) (by rw [hw3]; exact World.grownBy_alloc _ _ _) (fun r e => by cases e)
  have HR3 := Lib.hid hR3
  have HBX := Lib.hid hbx
  clear hw3 hR3 hbx HR hw2
  rw [hsz]
  go_wp2_with fail
  refine (wpIn_wide (n := 4)).1 ?_
  refine range_box rfl (by omega) (gf := 27) (lb := #[.pointer (some ⟨q + 1, 0, none⟩)]) rfl trivial (enters_of Try.func27 (by kernel_rfl) rfl)
    (encs := fun x : U32 => #[Value.int .u32 x.1]) (b := q + 1) (ys := wfs T m) (by omega) (words_box 3 (by omega) (q + 1) m T HT.out (by omega) w3 HBX.out) (fun _ => rfl)
    (fun pre W => Rl w W q m pre ∧ q + 1 < W.heap.size)
    (fun pre A C row hp hg hr => ⟨hp.1.kept hg (fun r e => by rcases hr r e with h | h <;> omega), by have := hg.size; omega⟩)
    ⟨HR3.out, by omega⟩
    (fun x => { tmps := #[.string s, undef, .pointer (some ⟨w.heap.size, 0, none⟩), .int .i64 0, .string T, .bool true, .pointer (some ⟨q, 0, none⟩), .int .u32 x.1, .tuple #[.string T, .bool true], .string s, .tuple #[.string T, .bool true], .string T, .bool true, .bool true, .bool false, .bool false, .string s, .int .i64 s.size, .bool false, .bool false, .bool false, .string T, .int .i64 (4 * m), .int .i64 0, .bool false, .bool false, undef, .string T, .int .i64 (4 * m), .int .i64 m, .slice (some ⟨w.heap.size + 1, 0, none⟩) 0 m, .string T, .func (.func 27) #[] #[.pointer (some ⟨q + 1, 0, none⟩)], .int .u32 x.1, undef, undef, undef, undef, undef, undef, undef, undef], defers := [] }) ?assign ?body ?done
  case assign =>
    intro l x W K hK
    gi_wp2
    exact hK
  case body =>
    rintro l pre x W ⟨hr, hsz2⟩ hlen
    rw [wfs_len] at hlen
    have hc := hr.bx.cell
    have hrow := hr.row
    have HRR := Lib.hid hr
    have HS := Lib.hid hs3
    clear hr HR3 HBX hs3
    gi_wp2_with (gi_at_builtin; refine wpListIn_append_fits _ rfl _ _ 22 rfl (w.heap.size + 1) 35 i0 1 Try.underlying22 hi hz1 (w.heap.size + 1) pre.length m _ rfl (hrow.alloc _) ⟨W.heap.size, 0, none⟩ 1 1 [.int .u32 x.1] rfl rfl (cell_one_new _ _ _) (by simp [Value.oneCell']) (by omega) ?_; intro w1 hown hgrow; obtain ⟨k1, k2, k3, hc1, hf1, k4⟩ := HRR.out.step hsz2 hgrow hown)
    rw [HS.out]
    exact ⟨k1, k2, k3, k4⟩
  case done =>
    rintro D W hD ⟨hr, _⟩ hK
    have hzr : ∀ z ∈ zs, 0 ≤ z ∧ z < 4294967296 := by
      intro z hz
      rw [← HALL.out] at hz
      obtain ⟨x, _, rfl⟩ := List.mem_map.1 hz
      exact x.2
    have hrow := hr.row
    have hbx := hr.bx
    rw [wfs_cells, HALL.out, wfs_len] at hrow
    rw [wfs_len] at hbx
    have hc := hbx.cell
    have c5 := from8 W (rd_own hrow HZL.out hzr) (Nat.le_refl m) (by unfold maxLen; omega) (by omega)
    have C5 := Lib.hid c5
    have HRR := Lib.hid hr
    have HROW := Lib.hid hrow
    have HKK := Lib.hid hK
    have HDD := Lib.hid hD
    have HZR := Lib.hid hzr
    clear c5 hr hrow hbx hK hzr HR3 HBX hD
    go_wp2_with fail
    refine C5.out.mono ?_
    rintro e w5 ⟨A2, n2, c2, rfl, hA2, hn2, hcm2, hb5⟩
    have hr5 : w5.heap[w.heap.size]? = some (.cells #[.slice none 0 0, .int .i64 0] 24 (0, 0)) := by
      rw [hb5.block _ (Array.getElem?_eq_some_iff.1 HRR.out.res).1]
      exact HRR.out.res
    obtain ⟨a0, a1, a2, a3⟩ := cells2 hr5
    go_wp2_with fail
    have hq2 := HRR.out.hq
    have hD2 : q + 2 ≤ D := by have := HDD.out; omega
    have hd5 : w5.heap[D]? = some (.deferred (some [])) := (hb5.block _ (Array.getElem?_eq_some_iff.1 HKK.out).1).trans HKK.out
    have hbe5 : Below w.heap.size w w5 := HRR.out.be.trans (hb5.mono HRR.out.be.size)
    have hrow5 := own_keep8 HROW.out hb5
    obtain ⟨w6, hw6⟩ : ∃ w6, (w5.setCell ⟨w.heap.size, 0, none⟩ (.slice A2 n2 c2)).setCell ⟨w.heap.size, 1, none⟩ (.int .i64 (fwd zs)) = w6 := ⟨_, rfl⟩
    have e6 : w6.heap[w.heap.size]? = some (.cells #[.slice A2 n2 c2, .int .i64 (fwd zs)] 24 (0, 0)) := by
      rw [← hw6]
      exact row2 hr5 _ _
    have g6 : w5.grownBy w6 (some w.heap.size) := by
      rw [← hw6]
      exact ⟨rfl, rfl, rfl, by simp [World.setCell], fun k _ hk => (Below.heap_setCell _ _ _ k (fun e => hk (by rw [e]))).trans (Below.heap_setCell _ _ _ k (fun e => hk (by rw [e])))⟩
    have hd6 : w6.heap[D]? = some (.deferred (some [])) := by
      rw [g6.block D (Array.getElem?_eq_some_iff.1 hd5).1 (by simp; omega)]
      exact hd5
    have hbe6 : Below w.heap.size w w6 := hbe5.grown g6 hbe5.size (fun k hk => by cases hk; exact Nat.le_refl _)
    have hrow6 := hrow5.kept g6 (.inr (by simp [Value.ownBlock]))
    rw [hw6]
    refine ⟨by simp, .inl ⟨_, _, rfl, run_takeDeferred hd6, ?_⟩⟩
    have e7 : (w6.putObj D (.deferred none)).heap[w.heap.size]? = some (.cells #[.slice A2 n2 c2, .int .i64 (fwd zs)] 24 (0, 0)) := (World.putObj_heap_other (by omega)).trans e6
    have hrow7 := ownsRow_putObj hrow6 (.deferred none) hd6 rfl
    have hbe7 : Below w.heap.size w (w6.putObj D (.deferred none)) := hbe6.trans (belowK_b (w := w) (Nat.le_refl _) w6 D _ _ (by omega) hd6 rfl rfl)
    refine ⟨.tuple #[.agg #[.slice A2 n2 c2, .int .i64 (fwd zs)], .int .i64 (fwe zs)], ?_, _, rfl, ⟨A2, n2, c2, rfl, hA2 _ (rd_own hrow7 HZL.out HZR.out), hn2, hcm2⟩, hbe7⟩
    obtain ⟨k0, k1, _⟩ := cells2 e7
    simp [results, Try.f17, go_sem, k0, k1]
theorem read8_code (s : ByteArray) (w : World) (hs : s.size ≤ 1073741824) :
    Calls Try.prog 17 #[.string s] w fun e w' => ∃ v, e = .returned (.tuple #[v, .int .i64 (rde s)]) ∧ ImV w' v (rdc s) (rdd s) ∧ Below w.heap.size w w' := by
  by_cases h : mk8 s = false ∨ 65548 < s.size ∨ (s.size - 4) % 4 ≠ 0
  · obtain ⟨a, b, c⟩ := rd_no (read_none h)
    rw [a, b, c]
    exact read8_no2 s w hs h
  · have hm : mk8 s = true := by
      cases hk : mk8 s with
      | true => rfl
      | false => exact absurd (.inl hk) h
    have h2 : s.size ≤ 65548 := Nat.le_of_not_lt fun hh => h (.inr (.inl hh))
    have h3 : (s.size - 4) % 4 = 0 := Decidable.byContradiction fun hh => h (.inr (.inr hh))
    have h4 := mk8_size hm
    have h5 : s.size = 4 + 4 * ((s.size - 4) / 4) := by omega
    obtain ⟨a, b, c⟩ := read_words hm h2 h5
    rw [a, b, c]
    exact read8_go s w h2 hm _ h5
end Go.Proofs.Ytmifiadkhmglmaa
