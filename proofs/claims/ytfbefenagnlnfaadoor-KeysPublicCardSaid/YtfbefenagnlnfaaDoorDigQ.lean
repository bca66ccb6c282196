/- The digest of a pair: the contract of the reference's Pair. -/
import Derived.Test.YtfbefenagnlnfaaDoorDigP
set_option linter.unusedVariables false
namespace Go.Proofs.YtfbefenagnlnfaaDoor
open Go.RowKit

theorem fourth (w : World) (a b c d : Obj) : ((((w.alloc a).alloc b).alloc c).alloc d).drew.heap[w.heap.size + 1 + 1 + 1]? = some d := by
  have := heap_alloc_new (((w.alloc a).alloc b).alloc c) d
  rw [heap_drew]
  simpa using this
theorem P3.set {w W : World} {x0 x1 x2 x3 y0 y1 y2 y3 : Int} (h : P3 w W x0 x1 x2 x3 y0 y1 y2 y3) {n : Nat} (hn : w.heap.size + 3 ≤ n) (i : Nat) (v : Value) : P3 w (W.setCell ⟨n, i, none⟩ v) x0 x1 x2 x3 y0 y1 y2 y3 :=
  ⟨by rw [heap_setCell_other _ _ _ _ (by simp; omega)]; exact h.ha, by rw [heap_setCell_other _ _ _ _ (by simp; omega)]; exact h.hb, by rw [heap_setCell_other _ _ _ _ (by simp; omega)]; exact h.hz, h.be.setCell (by simp; omega) _, by simp; exact h.sz⟩
theorem P3.set8 {w W : World} {x0 x1 x2 x3 y0 y1 y2 y3 : Int} (h : P3 w W x0 x1 x2 x3 y0 y1 y2 y3) {n : Nat} (hn : w.heap.size + 3 ≤ n) (v0 v1 v2 v3 v4 v5 v6 v7 : Value) :
    P3 w ((((((((W.setCell ⟨n, 0, none⟩ v0).setCell ⟨n, 1, none⟩ v1).setCell ⟨n, 2, none⟩ v2).setCell ⟨n, 3, none⟩ v3).setCell ⟨n, 4, none⟩ v4).setCell ⟨n, 5, none⟩ v5).setCell ⟨n, 6, none⟩ v6).setCell ⟨n, 7, none⟩ v7) x0 x1 x2 x3 y0 y1 y2 y3 :=
  (((((((h.set hn 0 v0).set hn 1 v1).set hn 2 v2).set hn 3 v3).set hn 4 v4).set hn 5 v5).set hn 6 v6).set hn 7 v7

/-- What holds behind a region that ends normally. -/
def AtEnd (p : Act → World → Prop) : Exit → Act → World → Prop
  | .normal, a, w => p a w
  | _, _, _ => False
theorem AtEnd.imp {p : Act → World → Prop} {Q : Exit → Act → World → Prop} (h : ∀ a w, p a w → Q .normal a w) : ∀ e a w, AtEnd p e a w → Q e a w := fun e a w k => by
  cases e <;> first | exact h a w k | exact (k : False).elim

set_option maxRecDepth 100000 in
set_option maxHeartbeats 2000000 in
theorem pair_ref (a b : Ws) (w : World) (ha : Ok4 a) (hb : Ok4 b) :
    Calls Tryd.prog 42 #[ag a, ag b] w fun e w' => e = .returned (ag (pair a b)) ∧ Below w.heap.size w w' := by
  have z8 : Ok8 [2, 0, 0, 0, 0, 0, 0, 0] := mk8 ⟨by omega, by omega⟩ ⟨by omega, by omega⟩ ⟨by omega, by omega⟩ ⟨by omega, by omega⟩ ⟨by omega, by omega⟩ ⟨by omega, by omega⟩ ⟨by omega, by omega⟩ ⟨by omega, by omega⟩
  have h1 := taken_ok z8 ha
  have h2 := taken_ok h1 hb
  unfold pair
  obtain ⟨u0, u1, u2, u3, u4, u5, u6, u7, hU, _⟩ := ok8 h2
  obtain ⟨v0, v1, v2, v3, v4, v5, v6, v7, hV, _⟩ := ok8 h1
  rw [hU] at h2 ⊢
  rw [hV] at h1 hU
  obtain ⟨x0, x1, x2, x3, rfl, _⟩ := ok4 ha
  obtain ⟨y0, y1, y2, y3, rfl, _⟩ := ok4 hb
  show Calls Tryd.prog 42 #[ag [x0, x1, x2, x3], ag [y0, y1, y2, y3]] w fun e w' => e = .returned (ag [u0, u1, u2, u3]) ∧ Below w.heap.size w w'
  rw [ag4, ag4, ag4]
  have HZ := Lib.hid z8
  have H1 := Lib.hid h1
  have H2 := Lib.hid h2
  have HA := Lib.hid ha
  have HB := Lib.hid hb
  have HU := Lib.hid hU
  have HV := Lib.hid hV
  have HP := Lib.hid (P3.new w x0 x1 x2 x3 y0 y1 y2 y3).drew
  have HP0 := Lib.hid (P3.new w x0 x1 x2 x3 y0 y1 y2 y3)
  clear hU hV h1 h2 z8 ha hb
  go_enter Tryd.func42, Tryd.ntmps42
  go_wp2_with fail
  refine Code.wp_mono (AtEnd.imp (p := fun a W => ∃ N, a = ⟨#[.agg #[.int .u32 x0, .int .u32 x1, .int .u32 x2, .int .u32 x3], .agg #[.int .u32 y0, .int .u32 y1, .int .u32 y2, .int .u32 y3], .pointer (some ⟨w.heap.size, 0, none⟩), .pointer (some ⟨w.heap.size + 1, 0, none⟩), .pointer (some ⟨w.heap.size + 1 + 1, 0, none⟩), .pointer (some ⟨N, 0, none⟩), .agg #[.int .u32 2, .int .u32 0, .int .u32 0, .int .u32 0, .int .u32 0, .int .u32 0, .int .u32 0, .int .u32 0], .agg #[.int .u32 x0, .int .u32 x1, .int .u32 x2, .int .u32 x3], .agg #[.int .u32 v0, .int .u32 v1, .int .u32 v2, .int .u32 v3, .int .u32 v4, .int .u32 v5, .int .u32 v6, .int .u32 v7], .agg #[.int .u32 y0, .int .u32 y1, .int .u32 y2, .int .u32 y3], .agg #[.int .u32 u0, .int .u32 u1, .int .u32 u2, .int .u32 u3, .int .u32 u4, .int .u32 u5, .int .u32 u6, .int .u32 u7], undef, undef, undef, undef, undef, undef, undef, undef, undef], []⟩ ∧ W.heap[N]? = some (.cells #[.int .u32 u0, .int .u32 u1, .int .u32 u2, .int .u32 u3, .int .u32 u4, .int .u32 u5, .int .u32 u6, .int .u32 u7] 89 (0, 0)) ∧ w.heap.size + 3 ≤ N ∧ P3 w W x0 x1 x2 x3 y0 y1 y2 y3) ?_) ?_
  · rintro a W ⟨N, rfl, hN, hN3, hp⟩
    clear HP HP0
    obtain ⟨m0, m1, m2, m3, m4, m5, m6, m7, _⟩ := cells8 hN
    obtain ⟨⟨a0, a1, a2, a3⟩, ⟨b0, b1, b2, b3⟩, ⟨c0, c1, c2, c3⟩, ⟨d0, d1, d2, d3⟩⟩ := hp.cells
    have HR := Lib.hid (row4 hp.hz (.int .u32 u0) (.int .u32 u1) (.int .u32 u2) (.int .u32 u3))
    have HBE := Lib.hid hp.be
    clear hN hp
    go_wp2_with fail
    exact bodyPost_ret (v := .agg #[.int .u32 u0, .int .u32 u1, .int .u32 u2, .int .u32 u3]) (by
      obtain ⟨k0, k1, k2, k3, _⟩ := cells4 HR.out
      simp [results, go_sem, k0, k1, k2, k3]) rfl ⟨rfl, below_row4 HBE.out (by omega) _ _ _ _⟩
  go_region_law (first
    | (go_simp; go_at_call 62; with_reducible refine (taker_ex _ HZ.out HA.out HV.out).mono ?_; rintro e w1 ⟨rfl, hb⟩; have hk1 := Lib.hid (fun (k : Nat) (hk : k < _) => hb.block k hk); have hbs := hb.size; (try simp only [World.size_alloc, World.size_drew] at hbs); (first | (with_reducible have n3 := Nat.lt_of_succ_le hbs) | skip); clear hbs; have hc := fun (p : Addr) (hp : p.block < _) => hb.cell (p := p) hp; have hf := fun (p : Addr) (hp : p.block < _) => hb.frozen (p := p) hp; replace HP := Lib.hid (show P3 w w1 x0 x1 x2 x3 y0 y1 y2 y3 by first | (with_reducible exact HP.out.after hb) | (with_reducible exact (HP0.out.after ((Below.refl _ _).alloc (Nat.le_refl _) _)).drew.after hb) | (with_reducible exact (HP.out.after ((Below.refl _ _).alloc (Nat.le_refl _) _)).after hb)); clear hb; have hz1 := Lib.hid HP.out.sz; obtain ⟨⟨a0, a1, a2, a3⟩, ⟨b0, b1, b2, b3⟩, ⟨c0, c1, c2, c3⟩, ⟨d0, d1, d2, d3⟩⟩ := HP.out.cells; have n0 : w.heap.size < w1.heap.size := (by have := HP.out.sz; omega); have n1 : w.heap.size + 1 < w1.heap.size := (by have := HP.out.sz; omega); have n2 : w.heap.size + 1 + 1 < w1.heap.size := (by have := HP.out.sz; omega))
    | (go_simp; go_at_call 62; with_reducible refine (taker_ex _ H1.out HB.out HU.out).mono ?_; rintro e w2 ⟨rfl, hb⟩; have hk2 := Lib.hid (fun (k : Nat) (hk : k < _) => hb.block k hk); have hbs := hb.size; (try simp only [World.size_alloc] at hbs); (first | (with_reducible have n3 := Nat.lt_of_succ_le hbs) | skip); clear hbs; have hc := fun (p : Addr) (hp : p.block < _) => hb.cell (p := p) hp; have hf := fun (p : Addr) (hp : p.block < _) => hb.frozen (p := p) hp; replace HP := Lib.hid (show P3 w w2 x0 x1 x2 x3 y0 y1 y2 y3 by first | (with_reducible exact HP.out.after hb) | (with_reducible exact (HP0.out.after ((Below.refl _ _).alloc (Nat.le_refl _) _)).drew.after hb) | (with_reducible exact (HP.out.after ((Below.refl _ _).alloc (Nat.le_refl _) _)).after hb)); clear hb; have hz2 := Lib.hid HP.out.sz; obtain ⟨⟨a0, a1, a2, a3⟩, ⟨b0, b1, b2, b3⟩, ⟨c0, c1, c2, c3⟩, ⟨d0, d1, d2, d3⟩⟩ := HP.out.cells; have n0 : w.heap.size < w2.heap.size := (by have := HP.out.sz; omega); have n1 : w.heap.size + 1 < w2.heap.size := (by have := HP.out.sz; omega); have n2 : w.heap.size + 1 + 1 < w2.heap.size := (by have := HP.out.sz; omega)))
  all_goals
    clear hc hf
    show ∃ N, _
    first
      | (refine ⟨w2.heap.size, by with_reducible rfl, ?_, HP.out.sz, ?_⟩
         · with_reducible exact heap_alloc_new _ _
         · with_reducible exact HP.out.after ((Below.refl _ _).alloc (Nat.le_refl _) _))
      | (refine ⟨w1.heap.size, by with_reducible rfl, ?_, hz1.out, ?_⟩
         · exact row8 ((hk2.out _ (by simp)).trans (heap_alloc_new _ _)) _ _ _ _ _ _ _ _
         · exact P3.set8 HP.out hz1.out _ _ _ _ _ _ _ _)
      | (refine ⟨w.heap.size + 1 + 1 + 1, by with_reducible rfl, ?_, Nat.le_refl _, ?_⟩
         · exact row8 ((hk2.out _ n3).trans ((hk1.out _ (by simp)).trans (fourth _ _ _ _ _))) _ _ _ _ _ _ _ _
         · exact P3.set8 HP.out (Nat.le_refl _) _ _ _ _ _ _ _ _)
end Go.Proofs.YtfbefenagnlnfaaDoor
