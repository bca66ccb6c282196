/- The reference's on: the contract. -/
import Derived.Test.YtioiaifmcemjlaaDoorMerG
import Derived.Deep.RegionHeld3
set_option linter.unusedVariables false
namespace Go.Proofs.YtioiaifmcemjlaaDoor
open Go.RowKit

theorem mon_ok : ∀ (m n : Nat) (old : Ws) (wh : Bool) (l : Dl), Ok4 old → Oks l → Ok4 (mon old m n wh l).1 ∧ Ok4 (mon old m n wh l).2.1 := by
  intro m n
  induction n using Nat.strongRecOn generalizing m with
  | ind n ih =>
    intro old wh l h hl
    by_cases hm : m = n
    · subst hm
      cases wh
      · by_cases h1 : l.length = 1
        · have hp : l ≠ [] := fun e => by rw [e] at h1; simp at h1
          rw [on_cut h1]; exact ⟨hl.last hp, hl.last hp⟩
        · rw [on_cut_no h1]; exact ⟨h, h⟩
      · rw [on_whole]; exact ⟨h, h⟩
    · by_cases hp : l = []
      · subst hp
        rw [on_none hm]; exact ⟨h, h⟩
      · by_cases h1 : n ≤ 1
        · rw [mon, if_neg hm, if_neg hp, dif_pos h1]; exact ⟨h, h⟩
        · have h2 : 2 ≤ n := by omega
          have k1 := hf_lt h2
          have k2 := hf_pos n
          by_cases hi : m ≤ hf n
          · rw [on_left h2 hm hp hi]
            obtain ⟨a, b⟩ := ih (hf n) k1 m old wh l.dropLast h hl.dropLast
            exact ⟨a, pair_ok0 b (hl.last hp)⟩
          · rw [on_right h2 hm hp hi]
            obtain ⟨a, b⟩ := ih (n - hf n) (by omega) (m - hf n) old false l.dropLast h hl.dropLast
            exact ⟨pair_ok0 (hl.last hp) a, pair_ok0 (hl.last hp) b⟩
def OnE (w : World) (x y : Ws) (ok : Bool) (e : Ending) (w' : World) : Prop := e = .returned (.tuple #[ag x, ag y, .bool ok]) ∧ Below w.heap.size w w'
def OnAt (n : Nat) : Prop := ∀ (m c cap : Nat) (A : Option Addr) (old : Ws) (wh : Bool) (l : Dl) (w : World), 1 ≤ m → m ≤ n → n ≤ 1024 → l.length = c → c ≤ 1024 → c ≤ cap → cap ≤ 9223372036854775807 → Ok4 old → Dd w A l →
    Calls Tryd.prog 48 #[ag old, .int .i64 (m : Int), .int .i64 (n : Int), .bool wh, .slice A c cap] w (OnE w (mon old m n wh l).1 (mon old m n wh l).2.1 (mon old m n wh l).2.2)
set_option maxRecDepth 100000 in
set_option maxHeartbeats 4000000 in
theorem on_base (m c cap : Nat) (A : Option Addr) (wh : Bool) (l : Dl) (w : World) {f0 f1 f2 f3 : Int} (hl : l.length = c) (hc : c ≤ 1024) (hcc : c ≤ cap) (hm : cap ≤ 9223372036854775807) (hd : Dd w A l) :
    Calls Tryd.prog 48 #[ag [f0, f1, f2, f3], .int .i64 (m : Int), .int .i64 (m : Int), .bool wh, .slice A c cap] w (OnE w (mon [f0, f1, f2, f3] m m wh l).1 (mon [f0, f1, f2, f3] m m wh l).2.1 (mon [f0, f1, f2, f3] m m wh l).2.2) := by
  have hemp : l.isEmpty = (c == 0) := by
    rw [← hl]
    cases l <;> simp
  cases wh
  · by_cases h1 : c = 1
    · subst h1
      have hl0 : l ≠ [] := fun e => by rw [e] at hl; simp at hl
      rw [on_cut hl]
      obtain ⟨v0, v1, v2, v3, hlast, _⟩ := ok4 (hd.1.last hl0)
      obtain ⟨b, off, rfl, hr⟩ := hd.2 hl0
      have hj : l[0]? = some [v0, v1, v2, v3] := by
        rw [List.getLastD_eq_getLast?, List.getLast?_eq_getElem?, hl] at hlast
        rw [List.getElem?_eq_getElem (by omega)] at hlast ⊢
        rw [← hlast]; rfl
      have HK := Lib.hid ((((Kx.nil none w).add _ rfl (.cells #[.int .u32 f0, .int .u32 f1, .int .u32 f2, .int .u32 f3] 29 (0, 0))).add (w.heap.size + 1) (by simp) (.cells #[.int .u32 0, .int .u32 0, .int .u32 0, .int .u32 0] 29 (0, 0))).add (w.heap.size + 1 + 1) (by simp) (.cells #[.int .u32 0, .int .u32 0, .int .u32 0, .int .u32 0] 29 (0, 0)))
      obtain ⟨g0, g1, g2, g3⟩ := (hr.oldn HK.out.drew).zero hj
      have HKV := Lib.hid ((((Kx.nil none w).add _ rfl (.cells #[.int .u32 f0, .int .u32 f1, .int .u32 f2, .int .u32 f3] 29 (0, 0))).add (w.heap.size + 1) (by simp) (.cells #[.int .u32 v0, .int .u32 v1, .int .u32 v2, .int .u32 v3] 29 (0, 0))).add (w.heap.size + 1 + 1) (by simp) (.cells #[.int .u32 0, .int .u32 0, .int .u32 0, .int .u32 0] 29 (0, 0)))
      obtain ⟨q0, q1, q2, q3⟩ := (hr.oldn HKV.out.drew).zero hj
      have hbw := hr.lt
      have hn0 : w.heap.size ≠ b := by omega
      have hn1 : w.heap.size + 1 ≠ b := by omega
      have hn2 : w.heap.size + 1 + 1 ≠ b := by omega
      rw [hlast]
      clear hr hj hlast hd hl hemp hl0
      show Calls _ _ #[ag [f0, f1, f2, f3], _, _, _, _] w (OnE w [v0, v1, v2, v3] [v0, v1, v2, v3] true)
      rw [ag4]
      go_enter Tryd.func48, Tryd.ntmps48
      go_wp2_with fail
      go_region
      go_wp2_with fail
      exact bodyPost_ret (v := .tuple #[.agg #[.int .u32 v0, .int .u32 v1, .int .u32 v2, .int .u32 v3], .agg #[.int .u32 v0, .int .u32 v1, .int .u32 v2, .int .u32 v3], .bool true]) (by simp [results, go_sem]) rfl ⟨rfl, (below3 _ _ _ _).drew⟩
    · rw [on_cut_no (by omega)]
      have i4 : ((c : Int) == 1) = false := by rw [beq_eq_false_iff_ne]; omega
      have i5 : (c == 1) = false := by rw [beq_eq_false_iff_ne]; omega
      clear hd hl hemp
      show Calls _ _ #[ag [f0, f1, f2, f3], _, _, _, _] w (OnE w [f0, f1, f2, f3] [f0, f1, f2, f3] false)
      rw [ag4]
      go_enter Tryd.func48, Tryd.ntmps48
      go_wp2_with fail
      go_region
      go_wp2_with fail
      exact bodyPost_ret (v := .tuple #[.agg #[.int .u32 f0, .int .u32 f1, .int .u32 f2, .int .u32 f3], .agg #[.int .u32 f0, .int .u32 f1, .int .u32 f2, .int .u32 f3], .bool false]) (by simp [results, go_sem]) rfl ⟨rfl, (below3 _ _ _ _).drew⟩
  · rw [on_whole, hemp]
    obtain ⟨bb, hbb⟩ : ∃ bb, (c == 0) = bb := ⟨_, rfl⟩
    have i1 : ((c : Int) == 0) = bb := by
      rw [← hbb, Bool.eq_iff_iff, beq_iff_eq, beq_iff_eq]; omega
    rw [hbb]
    clear hd hl hemp
    show Calls _ _ #[ag [f0, f1, f2, f3], _, _, _, _] w (OnE w [f0, f1, f2, f3] [f0, f1, f2, f3] bb)
    rw [ag4]
    go_enter Tryd.func48, Tryd.ntmps48
    go_wp2_with fail
    go_region
    go_wp2_with fail
    exact bodyPost_ret (v := .tuple #[.agg #[.int .u32 f0, .int .u32 f1, .int .u32 f2, .int .u32 f3], .agg #[.int .u32 f0, .int .u32 f1, .int .u32 f2, .int .u32 f3], .bool bb]) (by simp [results, go_sem]) rfl ⟨rfl, (below3 _ _ _ _).drew⟩
theorem allT {p : Option Nat} {w W : World} {n3 n4 n5 : Nat} {a b c : Nat × Obj} {tv tx ty : TypeId} {v0 v1 v2 v3 x0 x1 x2 x3 y0 y1 y2 y3 : Int} (h : Kx p w W [a, b, c, (n3, .cells #[.int .u32 v0, .int .u32 v1, .int .u32 v2, .int .u32 v3] tv (0, 0)), (n4, .cells #[.int .u32 x0, .int .u32 x1, .int .u32 x2, .int .u32 x3] tx (0, 0)), (n5, .cells #[.int .u32 y0, .int .u32 y1, .int .u32 y2, .int .u32 y3] ty (0, 0))]) : W.cell? ⟨n3, 0, none⟩ = some (.int .u32 v0) ∧ W.cell? ⟨n3, 1, none⟩ = some (.int .u32 v1) ∧ W.cell? ⟨n3, 2, none⟩ = some (.int .u32 v2) ∧ W.cell? ⟨n3, 3, none⟩ = some (.int .u32 v3) ∧ W.cell? ⟨n4, 0, none⟩ = some (.int .u32 x0) ∧ W.cell? ⟨n4, 1, none⟩ = some (.int .u32 x1) ∧ W.cell? ⟨n4, 2, none⟩ = some (.int .u32 x2) ∧ W.cell? ⟨n4, 3, none⟩ = some (.int .u32 x3) ∧ W.cell? ⟨n5, 0, none⟩ = some (.int .u32 y0) ∧ W.cell? ⟨n5, 1, none⟩ = some (.int .u32 y1) ∧ W.cell? ⟨n5, 2, none⟩ = some (.int .u32 y2) ∧ W.cell? ⟨n5, 3, none⟩ = some (.int .u32 y3) := by
  obtain ⟨a0, a1, a2, a3, _⟩ := cells4 (h.at 3 rfl)
  obtain ⟨b0, b1, b2, b3, _⟩ := cells4 (h.at 4 rfl)
  obtain ⟨c0, c1, c2, c3, _⟩ := cells4 (h.at 5 rfl)
  exact ⟨a0, a1, a2, a3, b0, b1, b2, b3, c0, c1, c2, c3⟩
theorem allT1 {p : Option Nat} {w W : World} {n3 n4 n5 q : Nat} {a c : Nat × Obj} {tv tx ty tg : TypeId} {v0 v1 v2 v3 x0 x1 x2 x3 y0 y1 y2 y3 : Int} {g0 g1 g2 g3 s0 s1 s2 s3 : Value} (h : Kx p w W [a, (q, .cells #[g0, g1, g2, g3] tg (0, 0)), c, (n3, .cells #[.int .u32 v0, .int .u32 v1, .int .u32 v2, .int .u32 v3] tv (0, 0)), (n4, .cells #[.int .u32 x0, .int .u32 x1, .int .u32 x2, .int .u32 x3] tx (0, 0)), (n5, .cells #[.int .u32 y0, .int .u32 y1, .int .u32 y2, .int .u32 y3] ty (0, 0))]) (hq : p = some q ∨ w.heap.size ≤ q) : ((((W.setCell ⟨q, 0, none⟩ s0).setCell ⟨q, 1, none⟩ s1).setCell ⟨q, 2, none⟩ s2).setCell ⟨q, 3, none⟩ s3).cell? ⟨n3, 0, none⟩ = some (.int .u32 v0) ∧ ((((W.setCell ⟨q, 0, none⟩ s0).setCell ⟨q, 1, none⟩ s1).setCell ⟨q, 2, none⟩ s2).setCell ⟨q, 3, none⟩ s3).cell? ⟨n3, 1, none⟩ = some (.int .u32 v1) ∧ ((((W.setCell ⟨q, 0, none⟩ s0).setCell ⟨q, 1, none⟩ s1).setCell ⟨q, 2, none⟩ s2).setCell ⟨q, 3, none⟩ s3).cell? ⟨n3, 2, none⟩ = some (.int .u32 v2) ∧ ((((W.setCell ⟨q, 0, none⟩ s0).setCell ⟨q, 1, none⟩ s1).setCell ⟨q, 2, none⟩ s2).setCell ⟨q, 3, none⟩ s3).cell? ⟨n3, 3, none⟩ = some (.int .u32 v3) ∧ ((((W.setCell ⟨q, 0, none⟩ s0).setCell ⟨q, 1, none⟩ s1).setCell ⟨q, 2, none⟩ s2).setCell ⟨q, 3, none⟩ s3).cell? ⟨n4, 0, none⟩ = some (.int .u32 x0) ∧ ((((W.setCell ⟨q, 0, none⟩ s0).setCell ⟨q, 1, none⟩ s1).setCell ⟨q, 2, none⟩ s2).setCell ⟨q, 3, none⟩ s3).cell? ⟨n4, 1, none⟩ = some (.int .u32 x1) ∧ ((((W.setCell ⟨q, 0, none⟩ s0).setCell ⟨q, 1, none⟩ s1).setCell ⟨q, 2, none⟩ s2).setCell ⟨q, 3, none⟩ s3).cell? ⟨n4, 2, none⟩ = some (.int .u32 x2) ∧ ((((W.setCell ⟨q, 0, none⟩ s0).setCell ⟨q, 1, none⟩ s1).setCell ⟨q, 2, none⟩ s2).setCell ⟨q, 3, none⟩ s3).cell? ⟨n4, 3, none⟩ = some (.int .u32 x3) ∧ ((((W.setCell ⟨q, 0, none⟩ s0).setCell ⟨q, 1, none⟩ s1).setCell ⟨q, 2, none⟩ s2).setCell ⟨q, 3, none⟩ s3).cell? ⟨n5, 0, none⟩ = some (.int .u32 y0) ∧ ((((W.setCell ⟨q, 0, none⟩ s0).setCell ⟨q, 1, none⟩ s1).setCell ⟨q, 2, none⟩ s2).setCell ⟨q, 3, none⟩ s3).cell? ⟨n5, 1, none⟩ = some (.int .u32 y1) ∧ ((((W.setCell ⟨q, 0, none⟩ s0).setCell ⟨q, 1, none⟩ s1).setCell ⟨q, 2, none⟩ s2).setCell ⟨q, 3, none⟩ s3).cell? ⟨n5, 2, none⟩ = some (.int .u32 y2) ∧ ((((W.setCell ⟨q, 0, none⟩ s0).setCell ⟨q, 1, none⟩ s1).setCell ⟨q, 2, none⟩ s2).setCell ⟨q, 3, none⟩ s3).cell? ⟨n5, 3, none⟩ = some (.int .u32 y3) :=
  allT (h.put4 1 rfl hq s0 s1 s2 s3)
theorem allT2 {p : Option Nat} {w W : World} {n3 n4 n5 q r : Nat} {a : Nat × Obj} {tv tx ty tg th : TypeId} {v0 v1 v2 v3 x0 x1 x2 x3 y0 y1 y2 y3 : Int} {g0 g1 g2 g3 h0 h1 h2 h3 s0 s1 s2 s3 u0 u1 u2 u3 : Value} (h : Kx p w W [a, (q, .cells #[g0, g1, g2, g3] tg (0, 0)), (r, .cells #[h0, h1, h2, h3] th (0, 0)), (n3, .cells #[.int .u32 v0, .int .u32 v1, .int .u32 v2, .int .u32 v3] tv (0, 0)), (n4, .cells #[.int .u32 x0, .int .u32 x1, .int .u32 x2, .int .u32 x3] tx (0, 0)), (n5, .cells #[.int .u32 y0, .int .u32 y1, .int .u32 y2, .int .u32 y3] ty (0, 0))]) (hq : p = some q ∨ w.heap.size ≤ q) (hr : p = some r ∨ w.heap.size ≤ r) : ((((((((W.setCell ⟨q, 0, none⟩ s0).setCell ⟨q, 1, none⟩ s1).setCell ⟨q, 2, none⟩ s2).setCell ⟨q, 3, none⟩ s3).setCell ⟨r, 0, none⟩ u0).setCell ⟨r, 1, none⟩ u1).setCell ⟨r, 2, none⟩ u2).setCell ⟨r, 3, none⟩ u3).cell? ⟨n3, 0, none⟩ = some (.int .u32 v0) ∧ ((((((((W.setCell ⟨q, 0, none⟩ s0).setCell ⟨q, 1, none⟩ s1).setCell ⟨q, 2, none⟩ s2).setCell ⟨q, 3, none⟩ s3).setCell ⟨r, 0, none⟩ u0).setCell ⟨r, 1, none⟩ u1).setCell ⟨r, 2, none⟩ u2).setCell ⟨r, 3, none⟩ u3).cell? ⟨n3, 1, none⟩ = some (.int .u32 v1) ∧ ((((((((W.setCell ⟨q, 0, none⟩ s0).setCell ⟨q, 1, none⟩ s1).setCell ⟨q, 2, none⟩ s2).setCell ⟨q, 3, none⟩ s3).setCell ⟨r, 0, none⟩ u0).setCell ⟨r, 1, none⟩ u1).setCell ⟨r, 2, none⟩ u2).setCell ⟨r, 3, none⟩ u3).cell? ⟨n3, 2, none⟩ = some (.int .u32 v2) ∧ ((((((((W.setCell ⟨q, 0, none⟩ s0).setCell ⟨q, 1, none⟩ s1).setCell ⟨q, 2, none⟩ s2).setCell ⟨q, 3, none⟩ s3).setCell ⟨r, 0, none⟩ u0).setCell ⟨r, 1, none⟩ u1).setCell ⟨r, 2, none⟩ u2).setCell ⟨r, 3, none⟩ u3).cell? ⟨n3, 3, none⟩ = some (.int .u32 v3) ∧ ((((((((W.setCell ⟨q, 0, none⟩ s0).setCell ⟨q, 1, none⟩ s1).setCell ⟨q, 2, none⟩ s2).setCell ⟨q, 3, none⟩ s3).setCell ⟨r, 0, none⟩ u0).setCell ⟨r, 1, none⟩ u1).setCell ⟨r, 2, none⟩ u2).setCell ⟨r, 3, none⟩ u3).cell? ⟨n4, 0, none⟩ = some (.int .u32 x0) ∧ ((((((((W.setCell ⟨q, 0, none⟩ s0).setCell ⟨q, 1, none⟩ s1).setCell ⟨q, 2, none⟩ s2).setCell ⟨q, 3, none⟩ s3).setCell ⟨r, 0, none⟩ u0).setCell ⟨r, 1, none⟩ u1).setCell ⟨r, 2, none⟩ u2).setCell ⟨r, 3, none⟩ u3).cell? ⟨n4, 1, none⟩ = some (.int .u32 x1) ∧ ((((((((W.setCell ⟨q, 0, none⟩ s0).setCell ⟨q, 1, none⟩ s1).setCell ⟨q, 2, none⟩ s2).setCell ⟨q, 3, none⟩ s3).setCell ⟨r, 0, none⟩ u0).setCell ⟨r, 1, none⟩ u1).setCell ⟨r, 2, none⟩ u2).setCell ⟨r, 3, none⟩ u3).cell? ⟨n4, 2, none⟩ = some (.int .u32 x2) ∧ ((((((((W.setCell ⟨q, 0, none⟩ s0).setCell ⟨q, 1, none⟩ s1).setCell ⟨q, 2, none⟩ s2).setCell ⟨q, 3, none⟩ s3).setCell ⟨r, 0, none⟩ u0).setCell ⟨r, 1, none⟩ u1).setCell ⟨r, 2, none⟩ u2).setCell ⟨r, 3, none⟩ u3).cell? ⟨n4, 3, none⟩ = some (.int .u32 x3) ∧ ((((((((W.setCell ⟨q, 0, none⟩ s0).setCell ⟨q, 1, none⟩ s1).setCell ⟨q, 2, none⟩ s2).setCell ⟨q, 3, none⟩ s3).setCell ⟨r, 0, none⟩ u0).setCell ⟨r, 1, none⟩ u1).setCell ⟨r, 2, none⟩ u2).setCell ⟨r, 3, none⟩ u3).cell? ⟨n5, 0, none⟩ = some (.int .u32 y0) ∧ ((((((((W.setCell ⟨q, 0, none⟩ s0).setCell ⟨q, 1, none⟩ s1).setCell ⟨q, 2, none⟩ s2).setCell ⟨q, 3, none⟩ s3).setCell ⟨r, 0, none⟩ u0).setCell ⟨r, 1, none⟩ u1).setCell ⟨r, 2, none⟩ u2).setCell ⟨r, 3, none⟩ u3).cell? ⟨n5, 1, none⟩ = some (.int .u32 y1) ∧ ((((((((W.setCell ⟨q, 0, none⟩ s0).setCell ⟨q, 1, none⟩ s1).setCell ⟨q, 2, none⟩ s2).setCell ⟨q, 3, none⟩ s3).setCell ⟨r, 0, none⟩ u0).setCell ⟨r, 1, none⟩ u1).setCell ⟨r, 2, none⟩ u2).setCell ⟨r, 3, none⟩ u3).cell? ⟨n5, 2, none⟩ = some (.int .u32 y2) ∧ ((((((((W.setCell ⟨q, 0, none⟩ s0).setCell ⟨q, 1, none⟩ s1).setCell ⟨q, 2, none⟩ s2).setCell ⟨q, 3, none⟩ s3).setCell ⟨r, 0, none⟩ u0).setCell ⟨r, 1, none⟩ u1).setCell ⟨r, 2, none⟩ u2).setCell ⟨r, 3, none⟩ u3).cell? ⟨n5, 3, none⟩ = some (.int .u32 y3) :=
  allT ((h.put4 1 rfl hq s0 s1 s2 s3).put4 2 rfl hr u0 u1 u2 u3)
set_option maxRecDepth 100000 in
set_option maxHeartbeats 16000000 in
theorem on_ref : ∀ n, OnAt n := by
  intro n
  induction n using Nat.strongRecOn with
  | ind n ih =>
    intro m c cap A old wh l w h1 hmn' hn hl hc hcc hm ho hd
    have hol := hd.1
    obtain ⟨f0, f1, f2, f3, hf, _⟩ := ok4 ho
    subst hf
    have hmok := mon_ok m n [f0, f1, f2, f3] wh l ho hol
    by_cases hmn : m = n
    · subst hmn
      exact on_base m c cap A wh l w hl hc hcc hm hd
    · have i3 : ((m : Int) == (n : Int)) = false := by rw [beq_eq_false_iff_ne]; omega
      have i4 : (m == n) = false := by rw [beq_eq_false_iff_ne]; omega
      by_cases hl0 : l = []
      · subst hl0
        have hc0 : c = 0 := by simpa using hl.symm
        subst hc0
        rw [on_none hmn]
        clear hl ih hd hol hmok ho
        show Calls _ _ #[ag [f0, f1, f2, f3], _, _, _, _] w (OnE w [f0, f1, f2, f3] [f0, f1, f2, f3] false)
        rw [ag4]
        go_enter Tryd.func48, Tryd.ntmps48
        go_wp2_with fail
        go_region
        go_wp2_with fail
        exact bodyPost_ret (v := .tuple #[.agg #[.int .u32 f0, .int .u32 f1, .int .u32 f2, .int .u32 f3], .agg #[.int .u32 f0, .int .u32 f1, .int .u32 f2, .int .u32 f3], .bool false]) (by simp [results, go_sem]) rfl ⟨rfl, (below3 _ _ _ _).drew⟩
      · have h2 : 2 ≤ n := by omega
        have k1 := hf_lt h2
        have k2 := hf_pos n
        have hl1 : 1 ≤ c := by
          rw [← hl]
          exact List.length_pos_iff.2 hl0
        have hlo := hol.last hl0
        have hlo' := hlo
        obtain ⟨v0, v1, v2, v3, hlast, _⟩ := ok4 hlo'
        clear hlo'
        obtain ⟨b, off, rfl, hr⟩ := hd.2 hl0
        have hj : l[c - 1]? = some [v0, v1, v2, v3] := by
          rw [List.getLastD_eq_getLast?, List.getLast?_eq_getElem?, hl] at hlast
          rw [List.getElem?_eq_getElem (by omega)] at hlast ⊢
          rw [← hlast]; rfl
        have HQ1 := Lib.hid (show w.heap.size ≤ w.heap.size + 1 by omega)
        have HQ2 := Lib.hid (show w.heap.size ≤ w.heap.size + 1 + 1 by omega)
        have HKZ := Lib.hid ((((Kx.nil none w).add _ rfl (.cells #[.int .u32 f0, .int .u32 f1, .int .u32 f2, .int .u32 f3] 29 (0, 0))).add (w.heap.size + 1) (by simp) (.cells #[.int .u32 0, .int .u32 0, .int .u32 0, .int .u32 0] 29 (0, 0))).add (w.heap.size + 1 + 1) (by simp) (.cells #[.int .u32 0, .int .u32 0, .int .u32 0, .int .u32 0] 29 (0, 0)))
        obtain ⟨g0, g1, g2, g3⟩ := (hr.oldn HKZ.out).four hj
        have hbw := hr.lt
        have hnb : w.heap.size ≠ b := by omega
        have hnb2 : w.heap.size + 1 ≠ b := by omega
        have hnb3 : w.heap.size + 1 + 1 ≠ b := by omega
        have HR := Lib.hid hr
        clear hj
        have C := fun w => half_ref n w h2 (by omega)
        have u0 : 0 ≤ (c : Int) - 1 := by omega
        have u1 : (c : Int) - 1 < (c : Int) := by omega
        have u2 : ((c : Int) - 1).toNat = c - 1 := by omega
        have u3 : c - 1 ≤ cap := by omega
        have u4 : ((c : Int) == 0) = false := by rw [beq_eq_false_iff_ne]; omega
        have u5 : (c == 0) = false := by rw [beq_eq_false_iff_ne]; omega
        by_cases hik : m ≤ hf n
        · skip
          have wl := on_left (old := [f0, f1, f2, f3]) (wh := wh) h2 hmn hl0 hik
          rw [wl] at hmok ⊢
          have hx := mon_ok m (hf n) [f0, f1, f2, f3] wh l.dropLast ho hol.dropLast
          have c3 := fun w => ih (hf n) k1 m (c - 1) cap (some ⟨b, off, none⟩) [f0, f1, f2, f3] wh l.dropLast w h1 hik (by omega) (by rw [List.length_dropLast, hl]) (by omega) (by omega) hm ho
          obtain ⟨CR, hCR⟩ : ∃ CR, mon [f0, f1, f2, f3] m (hf n) wh l.dropLast = CR := ⟨_, rfl⟩
          rw [hCR] at hx c3 hmok ⊢
          obtain ⟨x, y, okb⟩ := CR
          obtain ⟨hx, hy⟩ := hx
          simp only at hx hy
          have c4 := fun w => pair_ref y (l.getLastD []) w hy hlo
          obtain ⟨x0, x1, x2, x3, rfl, _⟩ := ok4 hx
          obtain ⟨y0, y1, y2, y3, rfl, _⟩ := ok4 hy
          rw [hlast] at hmok ⊢
          simp only at hmok
          rw [hlast] at c4
          obtain ⟨z0, z1, z2, z3, hz, _⟩ := ok4 hmok.2
          show Calls _ _ #[ag [f0, f1, f2, f3], _, _, _, _] w (OnE w [x0, x1, x2, x3] (pair [y0, y1, y2, y3] [v0, v1, v2, v3]) okb)
          rw [hz] at c4 ⊢
          rw [ag4, ag4, ag4] at c4
          rw [ag4]
          obtain ⟨k, hk⟩ : ∃ k, hf n = k := ⟨_, rfl⟩
          rw [hk] at C c3 k1 k2 hik
          have HC := Lib.hid C
          have C3 := Lib.hid c3
          have C4 := Lib.hid c4
          have i5 : k ≤ n := by omega
          have HK := Lib.hid (((((Kx.nil none w).add _ rfl (.cells #[.int .u32 f0, .int .u32 f1, .int .u32 f2, .int .u32 f3] 29 (0, 0))).add (w.heap.size + 1) (by simp) (.cells #[.int .u32 0, .int .u32 0, .int .u32 0, .int .u32 0] 29 (0, 0))).add (w.heap.size + 1 + 1) (by simp) (.cells #[.int .u32 0, .int .u32 0, .int .u32 0, .int .u32 0] 29 (0, 0))).add (w.heap.size + 1 + 1 + 1) (by simp) (.cells #[.int .u32 v0, .int .u32 v1, .int .u32 v2, .int .u32 v3] 29 (0, 0)))
          clear hl ih hd hol hmok ho C c3 c4 hx hy hCR hz hk wl hlast hl0 hr
          go_enter Tryd.func48, Tryd.ntmps48
          go_wp2_with fail
          refine (HC.out _).mono ?_
          rintro e w2 ⟨rfl, rfl⟩
          go_wp2_with fail
          refine (C3.out _ (Dd.row (HR.out.dropLast.oldn HK.out))).mono ?_
          rintro e w3 ⟨rfl, hb⟩
          have hs2 := hb.size
          simp at hs2
          have hk := ((HK.out.after hb).add _ rfl (.cells #[.int .u32 x0, .int .u32 x1, .int .u32 x2, .int .u32 x3] 29 (0, 0))).add (w3.heap.size + 1) (by simp) (.cells #[.int .u32 y0, .int .u32 y1, .int .u32 y2, .int .u32 y3] 29 (0, 0))
          simp only [List.cons_append, List.nil_append] at hk
          replace HK := Lib.hid hk
          clear hb hk
          rw [ag4, ag4]
          go_wp2_with fail
          replace HK := Lib.hid HK.out.drew
          go_region_held3 (fun W => W.cell? ⟨w.heap.size + 1 + 1 + 1, 0, none⟩ = some (.int .u32 v0) ∧ W.cell? ⟨w.heap.size + 1 + 1 + 1, 1, none⟩ = some (.int .u32 v1) ∧ W.cell? ⟨w.heap.size + 1 + 1 + 1, 2, none⟩ = some (.int .u32 v2) ∧ W.cell? ⟨w.heap.size + 1 + 1 + 1, 3, none⟩ = some (.int .u32 v3) ∧ W.cell? ⟨w3.heap.size, 0, none⟩ = some (.int .u32 x0) ∧ W.cell? ⟨w3.heap.size, 1, none⟩ = some (.int .u32 x1) ∧ W.cell? ⟨w3.heap.size, 2, none⟩ = some (.int .u32 x2) ∧ W.cell? ⟨w3.heap.size, 3, none⟩ = some (.int .u32 x3) ∧ W.cell? ⟨w3.heap.size + 1, 0, none⟩ = some (.int .u32 y0) ∧ W.cell? ⟨w3.heap.size + 1, 1, none⟩ = some (.int .u32 y1) ∧ W.cell? ⟨w3.heap.size + 1, 2, none⟩ = some (.int .u32 y2) ∧ W.cell? ⟨w3.heap.size + 1, 3, none⟩ = some (.int .u32 y3))
            (first | (with_reducible exact allT2 HK.out (.inr HQ1.out) (.inr HQ2.out)) | (with_reducible exact allT1 HK.out (.inr HQ1.out)) | (with_reducible exact allT HK.out))
            (first
              | (go_at_call 28; (with_reducible refine (C4.out _).mono ?_); rintro e w' ⟨rfl, hb⟩; replace HK := Lib.hid (HK.out.after hb); clear hb; obtain ⟨q0, q1, q2, q3, q4, q5, q6, q7⟩ := cells4 (HK.out.at 1 rfl); obtain ⟨r0, r1, r2, r3, r4, r5, r6, r7⟩ := cells4 (HK.out.at 2 rfl)))
          all_goals
            have HE := Lib.hid ((HK.out.put4 1 rfl (.inr HQ1.out) (.int .u32 x0) (.int .u32 x1) (.int .u32 x2) (.int .u32 x3)).put4 2 rfl (.inr HQ2.out) (.int .u32 z0) (.int .u32 z1) (.int .u32 z2) (.int .u32 z3))
            have HRA := Lib.hid (HE.out.at 1 rfl)
            have HRB := Lib.hid (HE.out.at 2 rfl)
            go_wp2_with fail
            exact bodyPost_ret (v := .tuple #[.agg #[.int .u32 x0, .int .u32 x1, .int .u32 x2, .int .u32 x3], .agg #[.int .u32 z0, .int .u32 z1, .int .u32 z2, .int .u32 z3], .bool okb]) (by
              obtain ⟨k0, k1, k2, k3, _⟩ := cells4 HRA.out
              obtain ⟨j0, j1, j2, j3, _⟩ := cells4 HRB.out
              simp [results, go_sem, k0, k1, k2, k3, j0, j1, j2, j3]) rfl ⟨rfl, HE.out.be.plain⟩
        · skip
          have wl := on_right (old := [f0, f1, f2, f3]) (wh := wh) h2 hmn hl0 hik
          rw [wl] at hmok ⊢
          have hx := mon_ok (m - hf n) (n - hf n) [f0, f1, f2, f3] false l.dropLast ho hol.dropLast
          have c3 := fun w => ih (n - hf n) (by omega) (m - hf n) (c - 1) cap (some ⟨b, off, none⟩) [f0, f1, f2, f3] false l.dropLast w (by omega) (by omega) (by omega) (by rw [List.length_dropLast, hl]) (by omega) (by omega) hm ho
          obtain ⟨CR, hCR⟩ : ∃ CR, mon [f0, f1, f2, f3] (m - hf n) (n - hf n) false l.dropLast = CR := ⟨_, rfl⟩
          rw [hCR] at hx c3 hmok ⊢
          obtain ⟨x, y, okb⟩ := CR
          obtain ⟨hx, hy⟩ := hx
          simp only at hx hy
          have c4 := fun w => pair_ref (l.getLastD []) x w hlo hx
          have c5 := fun w => pair_ref (l.getLastD []) y w hlo hy
          obtain ⟨x0, x1, x2, x3, rfl, _⟩ := ok4 hx
          obtain ⟨y0, y1, y2, y3, rfl, _⟩ := ok4 hy
          rw [hlast] at hmok ⊢
          simp only at hmok
          rw [hlast] at c4 c5
          obtain ⟨z0, z1, z2, z3, hz, _⟩ := ok4 hmok.1
          obtain ⟨t0, t1, t2, t3, hz2, _⟩ := ok4 hmok.2
          show Calls _ _ #[ag [f0, f1, f2, f3], _, _, _, _] w (OnE w (pair [v0, v1, v2, v3] [x0, x1, x2, x3]) (pair [v0, v1, v2, v3] [y0, y1, y2, y3]) okb)
          rw [hz] at c4 ⊢
          rw [hz2] at c5 ⊢
          rw [ag4, ag4, ag4] at c4 c5
          rw [ag4]
          rw [show ((n - hf n : Nat) : Int) = (n : Int) - (hf n : Int) by omega, show ((m - hf n : Nat) : Int) = (m : Int) - (hf n : Int) by omega] at c3
          obtain ⟨k, hk⟩ : ∃ k, hf n = k := ⟨_, rfl⟩
          rw [hk] at C c3 k1 k2 hik
          have HC := Lib.hid C
          have C3 := Lib.hid c3
          have C4 := Lib.hid c4
          have C5 := Lib.hid c5
          have i5 : k ≤ n := by omega
          have j0 : 0 ≤ (m : Int) - (k : Int) := by omega
          have j1 : 0 ≤ (n : Int) - (k : Int) := by omega
          have HK := Lib.hid (((((Kx.nil none w).add _ rfl (.cells #[.int .u32 f0, .int .u32 f1, .int .u32 f2, .int .u32 f3] 29 (0, 0))).add (w.heap.size + 1) (by simp) (.cells #[.int .u32 0, .int .u32 0, .int .u32 0, .int .u32 0] 29 (0, 0))).add (w.heap.size + 1 + 1) (by simp) (.cells #[.int .u32 0, .int .u32 0, .int .u32 0, .int .u32 0] 29 (0, 0))).add (w.heap.size + 1 + 1 + 1) (by simp) (.cells #[.int .u32 v0, .int .u32 v1, .int .u32 v2, .int .u32 v3] 29 (0, 0)))
          clear hl ih hd hol hmok ho C c3 c4 c5 hx hy hCR hz hz2 hk wl hlast hl0 hr
          go_enter Tryd.func48, Tryd.ntmps48
          go_wp2_with fail
          refine (HC.out _).mono ?_
          rintro e w2 ⟨rfl, rfl⟩
          go_wp2_with fail
          refine (C3.out _ (Dd.row (HR.out.dropLast.oldn HK.out))).mono ?_
          rintro e w3 ⟨rfl, hb⟩
          have hs2 := hb.size
          simp at hs2
          have hk := ((HK.out.after hb).add _ rfl (.cells #[.int .u32 x0, .int .u32 x1, .int .u32 x2, .int .u32 x3] 29 (0, 0))).add (w3.heap.size + 1) (by simp) (.cells #[.int .u32 y0, .int .u32 y1, .int .u32 y2, .int .u32 y3] 29 (0, 0))
          simp only [List.cons_append, List.nil_append] at hk
          replace HK := Lib.hid hk
          clear hb hk
          rw [ag4, ag4]
          go_wp2_with fail
          replace HK := Lib.hid HK.out.drew
          go_region_held3 (fun W => W.cell? ⟨w.heap.size + 1 + 1 + 1, 0, none⟩ = some (.int .u32 v0) ∧ W.cell? ⟨w.heap.size + 1 + 1 + 1, 1, none⟩ = some (.int .u32 v1) ∧ W.cell? ⟨w.heap.size + 1 + 1 + 1, 2, none⟩ = some (.int .u32 v2) ∧ W.cell? ⟨w.heap.size + 1 + 1 + 1, 3, none⟩ = some (.int .u32 v3) ∧ W.cell? ⟨w3.heap.size, 0, none⟩ = some (.int .u32 x0) ∧ W.cell? ⟨w3.heap.size, 1, none⟩ = some (.int .u32 x1) ∧ W.cell? ⟨w3.heap.size, 2, none⟩ = some (.int .u32 x2) ∧ W.cell? ⟨w3.heap.size, 3, none⟩ = some (.int .u32 x3) ∧ W.cell? ⟨w3.heap.size + 1, 0, none⟩ = some (.int .u32 y0) ∧ W.cell? ⟨w3.heap.size + 1, 1, none⟩ = some (.int .u32 y1) ∧ W.cell? ⟨w3.heap.size + 1, 2, none⟩ = some (.int .u32 y2) ∧ W.cell? ⟨w3.heap.size + 1, 3, none⟩ = some (.int .u32 y3))
            (first | (with_reducible exact allT2 HK.out (.inr HQ1.out) (.inr HQ2.out)) | (with_reducible exact allT1 HK.out (.inr HQ1.out)) | (with_reducible exact allT HK.out))
            (first
              | (go_at_call 28; (with_reducible refine (C4.out _).mono ?_); rintro e w' ⟨rfl, hb⟩; replace HK := Lib.hid (HK.out.after hb); clear hb; obtain ⟨q0, q1, q2, q3, q4, q5, q6, q7⟩ := cells4 (HK.out.at 1 rfl); obtain ⟨r0, r1, r2, r3, r4, r5, r6, r7⟩ := cells4 (HK.out.at 2 rfl))
              | (go_at_call 28; (with_reducible refine (C5.out _).mono ?_); rintro e w' ⟨rfl, hb⟩; replace HK := Lib.hid (HK.out.after hb); clear hb; obtain ⟨q0, q1, q2, q3, q4, q5, q6, q7⟩ := cells4 (HK.out.at 1 rfl); obtain ⟨r0, r1, r2, r3, r4, r5, r6, r7⟩ := cells4 (HK.out.at 2 rfl)))
          all_goals
            have HE := Lib.hid ((HK.out.put4 1 rfl (.inr HQ1.out) (.int .u32 z0) (.int .u32 z1) (.int .u32 z2) (.int .u32 z3)).put4 2 rfl (.inr HQ2.out) (.int .u32 t0) (.int .u32 t1) (.int .u32 t2) (.int .u32 t3))
            have HRA := Lib.hid (HE.out.at 1 rfl)
            have HRB := Lib.hid (HE.out.at 2 rfl)
            go_wp2_with fail
            exact bodyPost_ret (v := .tuple #[.agg #[.int .u32 z0, .int .u32 z1, .int .u32 z2, .int .u32 z3], .agg #[.int .u32 t0, .int .u32 t1, .int .u32 t2, .int .u32 t3], .bool okb]) (by
              obtain ⟨k0, k1, k2, k3, _⟩ := cells4 HRA.out
              obtain ⟨j0, j1, j2, j3, _⟩ := cells4 HRB.out
              simp [results, go_sem, k0, k1, k2, k3, j0, j1, j2, j3]) rfl ⟨rfl, HE.out.be.plain⟩

end Go.Proofs.YtioiaifmcemjlaaDoor
