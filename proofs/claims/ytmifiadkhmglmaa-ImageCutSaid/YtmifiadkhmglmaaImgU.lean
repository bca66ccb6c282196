/- Layer 8 (image): the iterator over a text's words: what it yields, its own variable in a box. -/
import Derived.RangeFuncBound
import Derived.RangeFuncLeaves
import Derived.RangeFuncBox
import Derived.Shelf.Abstract
import Derived.Shelf.RegionOpen
import Derived.WalkKit
import Derived.OwnWalkIn
import Derived.TacticsInMore
import Derived.LoopNIn
import Derived.LoopIn
import Derived.Maps.AppendAt
import Derived.Test.YtmifiadkhmglmaaRng
import Derived.Test.YtmifiadkhmglmaaImgT
set_option linter.unusedVariables false
namespace Go.Proofs.Ytmifiadkhmglmaa
open Go.RowKit Go.Shelf
attribute [local go_sem] Oper.semAt_some

abbrev U32 := { x : Int // 0 ≤ x ∧ x < 4294967296 }
theorem wrd_range (s : ByteArray) (i : Nat) : 0 ≤ wrd (nums s) i ∧ wrd (nums s) i < 4294967296 := wrd_bounds (nums_byte s) i
/-- The first k words of a text. -/
def wfs (s : ByteArray) (k : Nat) : List U32 := (List.range k).map fun j => ⟨wrd (nums s) (4 * j), wrd_range s _⟩
theorem wfs_succ (s : ByteArray) (k : Nat) : wfs s (k + 1) = wfs s k ++ [⟨wrd (nums s) (4 * k), wrd_range s _⟩] := by
  unfold wfs
  rw [List.range_succ, List.map_append]
  rfl
theorem wfs_len (s : ByteArray) (k : Nat) : (wfs s k).length = k := by simp [wfs]
/-- What is still to come of a text, behind k words. -/
def tl8 (s : ByteArray) (k : Nat) : ByteArray := s.extract (4 * k) s.size
theorem tl8_zero (s : ByteArray) : tl8 s 0 = s := by simp [tl8]
theorem tl8_size (s : ByteArray) (k : Nat) : (tl8 s k).size = s.size - 4 * k := by simp [tl8]
theorem tl8_next (s : ByteArray) (k : Nat) (h : 4 * k + 4 ≤ s.size) : (tl8 s k).extract 4 (s.size - 4 * k) = tl8 s (k + 1) := by
  unfold tl8
  rw [ByteArray.extract_extract, show 4 * k + (s.size - 4 * k) = s.size by omega, Nat.min_self, show 4 * k + 4 = 4 * (k + 1) by omega]
theorem nums_extract (s : ByteArray) (i j : Nat) : nums (s.extract i j) = ((nums s).take j).drop i := by
  unfold nums
  rw [ByteArray.data_extract, Array.toList_extract, List.extract_eq_take_drop, List.map_take, List.map_drop, List.drop_take]
/-- The word that comes next. -/
theorem head8 (s : ByteArray) (k : Nat) (h : 4 * k + 4 ≤ s.size) : ((tl8 s k).extract 0 4).size = 4 ∧ (wdsL (nums ((tl8 s k).extract 0 4))) = [wrd (nums s) (4 * k)] := by
  have hs : ((tl8 s k).extract 0 4).size = 4 := by simp [tl8]; omega
  refine ⟨hs, ?_⟩
  have hl := length_wdsL 1 (nums ((tl8 s k).extract 0 4)) (by rw [length_nums, hs])
  have hg := wdsL_at (nums ((tl8 s k).extract 0 4)) 0 (by rw [length_nums, hs]; omega)
  have e : nums ((tl8 s k).extract 0 4) = ((nums s).drop (4 * k)).take 4 := by
    unfold tl8
    rw [nums_extract, List.drop_zero, nums_extract, List.take_of_length_le (l := nums s) (by rw [length_nums]; exact Nat.le_refl _)]
  have hw : wrd (((nums s).drop (4 * k)).take 4) 0 = wrd (nums s) (4 * k) := by
    rw [← Nat.add_zero (4 * k), ← wrd_drop]
    unfold wrd
    rw [getD_take _ _ _ (by omega), getD_take _ _ _ (by omega), getD_take _ _ _ (by omega), getD_take _ _ _ (by omega)]
    rfl
  match h2 : wdsL (nums ((tl8 s k).extract 0 4)), hl with
  | [x], _ =>
    rw [h2] at hg
    have hx : x = wrd (nums ((tl8 s k).extract 0 4)) 0 := hg
    rw [hx, e, hw]
theorem words_in (n : Nat) (s : ByteArray) (w : World) :
    CallsIn Fence.wide n Try.prog 23 #[.string s] w fun e w' => e = .returned (.func (.func 27) #[] #[.pointer (some ⟨w.heap.size, 0, none⟩)]) ∧ w' = w.alloc (.cells #[.string s] 9) := by
  refine callsIn_of_wp Try.func23 rfl trivial ?_ rfl
  simp only [Try.ntmps23, List.size_toArray, List.length_cons, List.length_nil, Nat.reduceAdd, Nat.reduceSub, Array.replicate_succ, Array.replicate_zero, List.push_toArray, List.append_toArray, List.nil_append, List.cons_append]
  gi_wp2
  go_ret
  exact ⟨rfl, rfl⟩
/-- How many bytes are still to come, read off the box. -/
def left8 (b : Nat) (w : World) : Nat :=
  match w.cell? ⟨b, 0, none⟩ with
  | some (.string t) => t.size
  | _ => 0
theorem left8_eq {b : Nat} {w : World} {t : ByteArray} {u : TypeId} (h : w.heap[b]? = some (.cells #[.string t] u (0, 0))) : left8 b w = t.size := by
  have hc : w.cell? ⟨b, 0, none⟩ = some (.string t) := Boxed.cell h
  unfold left8
  rw [hc]
theorem below_grown {B : Nat} {w w' : World} (h : Below w.heap.size w w') : w.grownBy w' none := ⟨h.os, h.tape, h.output, h.size, fun k hk _ => h.block k hk⟩
theorem box_set {w : World} {b : Nat} {t : TypeId} {u : Value} (h : w.heap[b]? = some (.cells #[u] t (0, 0))) (v : Value) : (w.setCell ⟨b, 0, none⟩ v).heap[b]? = some (.cells #[v] t (0, 0)) := Boxed.set v h
set_option maxRecDepth 100000 in
set_option maxHeartbeats 1000000 in
theorem words1_in (n : Nat) (hn : 1 ≤ n) (l b m : Nat) (s : ByteArray) (hm : s.size = 4 * m) (hs : s.size ≤ 1073741824) (J : List U32 → World → Prop)
    (hY : ∀ pre x W, J pre W → pre.length < m → YieldAt Fence.wide (n - 1) Try.prog l #[.int .u32 x.1] W fun e W' => e = .returned (.bool true) ∧ J (pre ++ [x]) W' ∧ W'.heap[b]? = W.heap[b]?)
    (hJ : ∀ s A C row, J s A → A.grownBy C row → (∀ r, row = some r → r = b) → J s C)
    (W : World) (hc : W.heap[b]? = some (.cells #[.string s] 9 (0, 0))) (h0 : J [] W) :
    CallsIn Fence.wide n Try.prog 27 #[.func (.yield l) #[] #[], .pointer (some ⟨b, 0, none⟩)] W fun e W' => (∃ v, e = .returned v) ∧ J (wfs s m) W' := by
  refine callsIn_of_wp Try.func27 rfl trivial ?_ rfl
  simp only [Try.ntmps27, List.size_toArray, List.length_cons, List.length_nil, Nat.reduceAdd, Nat.reduceSub, Array.replicate_succ, Array.replicate_zero, List.push_toArray, List.append_toArray, List.nil_append, List.cons_append]
  gi_wp2
  gi_loopw [] (fun wr => ∃ k : Nat, k ≤ m ∧ wr.heap[b]? = some (.cells #[.string (tl8 s k)] 9 (0, 0)) ∧ J (wfs s k) wr)
    (fun wr => left8 b wr)
  case atStart =>
    exact ⟨0, Nat.zero_le _, by rw [tl8_zero]; exact hc, h0⟩
  case round =>
    obtain ⟨k, hk, hcr, hJs⟩ := hrel
    have hsz := tl8_size s k
    have hbl := Boxed.lt hcr
    have hcc := Boxed.cell hcr
    by_cases hlt : k < m
    · have hh := head8 s k (by omega)
      have hnx := tl8_next s k (by omega)
      have hx := wrd_range s (4 * k)
      have hws := wfs_succ s k
      obtain ⟨x, ex⟩ : ∃ x, wrd (nums s) (4 * k) = x := ⟨_, rfl⟩
      obtain ⟨T, eT⟩ : ∃ T, tl8 s k = T := ⟨_, rfl⟩
      obtain ⟨z, ez⟩ : ∃ z, s.size - 4 * k = z := ⟨_, rfl⟩
      obtain ⟨T2, eT2⟩ : ∃ T2, T.extract 0 4 = T2 := ⟨_, rfl⟩
      rw [eT, ez] at hnx hsz
      rw [eT, eT2, ex] at hh
      rw [eT] at hcr hcc
      have hz4 : (4 : Int) ≤ (z : Int) := by omega
      have cW : Calls Try.prog 28 #[.string T2] wr fun e w' => e = .returned (.tuple #[.slice (some ⟨wr.heap.size, 0, none⟩) 1 1, .int .i64 0]) ∧ w'.cell? ⟨wr.heap.size, 0, none⟩ = some (.int .u32 x) ∧ Below wr.heap.size wr w' := by
        refine (words_any T2 1 wr (by omega) (by rw [hh.1])).mono ?_
        rintro e w' ⟨h1, h2, h3⟩
        rw [hh.2] at h2
        exact ⟨h1, h2.cellAt 0 (by omega), h3⟩
      have CW := Lib.hid cW
      have HNX := Lib.hid hnx
      have HWS := Lib.hid hws
      have HCR := Lib.hid hcr
      clear cW hnx hws hcr hh
      gi_wp2
      refine ⟨trivial, ?_⟩
      refine (callsIn_wide.2 CW.out).mono ?_
      rintro e w1 ⟨rfl, hx0, hbe⟩
      have hb1 := (hbe.block b hbl).trans HCR.out
      have hJ1 := hJ _ _ _ none hJs (below_grown (B := 0) hbe) (fun r e => by cases e)
      obtain ⟨fn, tmps, assign, body, hy, hR⟩ := hY (wfs s k) ⟨wrd (nums s) (4 * k), wrd_range s _⟩ w1 hJ1 (by rw [wfs_len]; exact hlt)
      dsimp only at hy
      rw [ex] at hy
      gi_wp2
      refine hR.mono ?_
      rintro e W3 ⟨rfl, hJ3, hb3⟩
      have hb4 := hb3.trans hb1
      have hc4 := Boxed.cell hb4
      have hf4 := Boxed.frozen hb4
      have HB4 := Lib.hid hb4
      clear hb3 hb1 hb4 hcc
      gi_wp2
      go_roundw
      case rel =>
        have hJ4 := hJ _ _ _ (some b) hJ3 (grownBy_setCell' W3 b (.string (T.extract 4 z))) (fun r e => by cases e; rfl)
        refine ⟨k + 1, by omega, ?_, ?_⟩
        · rw [← HNX.out]; exact box_set HB4.out _
        · rw [HWS.out]; exact hJ4
      case measure =>
        rw [left8_eq HCR.out, left8_eq (box_set HB4.out _)]
        have : (T.extract 4 z).size = z - 4 := by simp; omega
        omega
    · obtain rfl : k = m := by omega
      have hT0 : (tl8 s k).size = 0 := by rw [hsz]; omega
      obtain ⟨T, eT⟩ : ∃ T, tl8 s k = T := ⟨_, rfl⟩
      rw [eT] at hcc hT0
      clear hsz hcr
      gi_wp2
      go_end0
      exact ⟨⟨_, rfl⟩, hJs⟩
theorem words_box (n : Nat) (hn : 1 ≤ n) (b m : Nat) (s : ByteArray) (hm : s.size = 4 * m) (hs : s.size ≤ 1073741824) (w : World) (hc : w.heap[b]? = some (.cells #[.string s] 9 (0, 0))) :
    OneBox Fence.wide n Try.prog 27 #[.pointer (some ⟨b, 0, none⟩)] (fun x : U32 => #[Value.int .u32 x.1]) b (wfs s m) w := fun l J W hW hJ hY h0 =>
  words1_in n hn l b m s hm hs J (fun pre x U hU hp => hY pre x U hU (by rw [wfs_len]; exact hp)) hJ W (hW.trans hc) h0
end Go.Proofs.Ytmifiadkhmglmaa
