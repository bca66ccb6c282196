/- The reference of layer 3: the contracts of its turns, Mix and Unmix. -/
import Derived.Test.YtflggcnojfmlmaaDoorDigC
set_option linter.unusedVariables false
namespace Go.Proofs.YtflggcnojfmlmaaDoor
open Go.RowKit


/-- .. and the reference's table in the fourth block. -/
structure StR (w wr : World) (l : Ws) : Prop extends St w wr l where
  hk : wr.heap[w.heap.size + 3]? = some (.cells #[.int .i64 7, .int .i64 9, .int .i64 13, .int .i64 18] 49 (0, 0))
theorem StR.set {w wr : World} {l : Ws} (h : StR w wr l) (i : Nat) (v : Int) : StR w (wr.setCell ⟨w.heap.size, i, none⟩ (.int .u32 v)) (l.set i v) := by
  refine ⟨h.toSt.set i v, ?_⟩
  rw [heap_setCell_other _ _ _ _ (by simp)]
  exact h.hk
theorem StR.drew {w wr : World} {l : Ws} (h : StR w wr l) : StR w wr.drew l := ⟨h.toSt.drew, h.hk⟩
theorem StR.sizeR {w wr : World} {l : Ws} (h : StR w wr l) : w.heap.size + 4 ≤ wr.heap.size := by
  have h1 := h.hk
  rcases Nat.lt_or_ge (w.heap.size + 3) wr.heap.size with h' | h'
  · omega
  · rw [Array.getElem?_eq_none h'] at h1; simp at h1
theorem StR.after {w wr wn : World} {l : Ws} (h : StR w wr l) (hb : Below wr.heap.size wr wn) : StR w wn l :=
  ⟨h.toSt.after hb, by rw [hb.block _ (by have := h.sizeR; omega)]; exact h.hk⟩
theorem StR.alloc {w wr : World} {l : Ws} (h : StR w wr l) (o : Obj) : StR w (wr.alloc o) l := h.after ((Below.refl _ _).alloc (Nat.le_refl _) o)
theorem StR.kc {w wr : World} {l : Ws} (h : StR w wr l) : wr.cell? ⟨w.heap.size + 3, 0, none⟩ = some (.int .i64 7) ∧ wr.cell? ⟨w.heap.size + 3, 1, none⟩ = some (.int .i64 9) ∧ wr.cell? ⟨w.heap.size + 3, 2, none⟩ = some (.int .i64 13) ∧ wr.cell? ⟨w.heap.size + 3, 3, none⟩ = some (.int .i64 18) := by
  simp [World.cell?, h.hk]
theorem StR.new (w : World) (l : Ws) : StR w ((((w.alloc (.cells (l.map (Value.int .u32)).toArray 26)).alloc (.cells #[.int .u32 0, .int .u32 0, .int .u32 0, .int .u32 0, .int .u32 0, .int .u32 0, .int .u32 0, .int .u32 0] 26)).alloc (.cells #[.int .i64 7, .int .i64 9, .int .i64 13, .int .i64 18] 49)).alloc (.cells #[.int .i64 7, .int .i64 9, .int .i64 13, .int .i64 18] 49)) l := by
  have h := St.new w l
  have h2 := (h.after ((Below.refl _ _).alloc (Nat.le_refl _) (.cells #[.int .i64 7, .int .i64 9, .int .i64 13, .int .i64 18] 49)))
  have h3 := (h2.after ((Below.refl _ _).alloc (Nat.le_refl _) (.cells #[.int .i64 7, .int .i64 9, .int .i64 13, .int .i64 18] 49)))
  refine ⟨h3, ?_⟩
  have := heap_alloc_new (((w.alloc (.cells (l.map (Value.int .u32)).toArray 26)).alloc (.cells #[.int .u32 0, .int .u32 0, .int .u32 0, .int .u32 0, .int .u32 0, .int .u32 0, .int .u32 0, .int .u32 0] 26)).alloc (.cells #[.int .i64 7, .int .i64 9, .int .i64 13, .int .i64 18] 49)) (.cells #[.int .i64 7, .int .i64 9, .int .i64 13, .int .i64 18] 49)
  simpa using this
theorem gr_smR (x : Int) (k : Nat) : (x + 2654435769 * (((k : Int) + 1) % 4294967296)) % 4294967296 = sm x (gr k) := by unfold sm gr; omega
theorem rnd_eqR {k : Nat} {e d0 d1 d2 d3 f0 f1 f2 f3 x0 x1 x2 x3 y0 y1 y2 y3 : Int} (he : (x0 + 2654435769 * ((k : Int) + 1)) % 4294967296 = e) (h0 : (e + y0) % 4294967296 = d0) (h1 : (x1 + y1) % 4294967296 = d1) (h2 : (x2 + y2) % 4294967296 = d2) (h3 : (x3 + y3) % 4294967296 = d3)
    (g0 : tn (bits .xor .u32 y0 d0) 7 = f0) (g1 : tn (bits .xor .u32 y1 d1) 9 = f1) (g2 : tn (bits .xor .u32 y2 d2) 13 = f2) (g3 : tn (bits .xor .u32 y3 d3) 18 = f3) : rnd k [x0, x1, x2, x3, y0, y1, y2, y3] = [d3, f0, f1, f2, f3, d0, d1, d2] := by
  rw [show (x0 + 2654435769 * ((k : Int) + 1)) % 4294967296 = sm x0 (gr k) by unfold sm gr; omega] at he
  subst g0 g1 g2 g3 h0 h1 h2 h3 he
  rfl

end Go.Proofs.YtflggcnojfmlmaaDoor
