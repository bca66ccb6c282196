/- What the walk of a signer that is used up rests on: blocks in another order, whole rows stored, what a call made. -/
import Derived.Test.YtfbefenagnlnfaaDoorKeyR
import Derived.Deep.RegionHeld3
set_option linter.unusedVariables false
namespace Go.Proofs.YtfbefenagnlnfaaDoor
open Go.RowKit
theorem op_at {l : List Oper} {n : Nat} {o : Oper} (h : l[n]? = some o) : (List.toArray l)[n]? = some o := by
  rw [List.getElem?_toArray]; exact h
theorem Kx.perm {p : Option Nat} {w W : World} {bs cs : List (Nat × Obj)} (h : Kx p w W bs) (hp : cs.Perm bs) : Kx p w W cs :=
  ⟨fun x hx => h.all x (hp.mem_iff.1 hx), (hp.map _).nodup_iff.2 h.nd, h.be⟩
theorem Kx.swap34 {p : Option Nat} {w W : World} {a b c d e : Nat × Obj} (h : Kx p w W ([a, b, c] ++ [d] ++ [e])) : Kx p w W ([a, b, c] ++ [e] ++ [d]) :=
  h.perm (by
    show [a, b, c, e, d].Perm [a, b, c, d, e]
    exact (((List.Perm.swap d e []).cons c).cons b).cons a)
theorem Kx.putRow {p : Option Nat} {w W : World} {bs : List (Nat × Obj)} (h : Kx p w W bs) (i : Nat) {q : Nat} {t : TypeId} {old : Array Value} (hx : bs[i]? = some (q, .cells old t (0, 0))) (hq : p = some q ∨ w.heap.size ≤ q) (new : Array Value) : Kx p w (W.setRow q new) (bs.set i (q, .cells new t (0, 0))) :=
  h.afterq i hx hq ⟨rfl, rfl, rfl, by rw [setRow_size]; exact Nat.le_refl _, fun k hk hne => setRow_other _ _ _ _ (fun e => hne (by rw [e]))⟩ (setRow_heap _ _ _ _ _ _ (h.at i hx))
/-- The blocks that a call made are as it left them. -/
def Md (q : Nat) (wc W : World) : Prop := wc.heap.size ≤ W.heap.size ∧ ∀ k, q ≤ k → k < wc.heap.size → W.heap[k]? = wc.heap[k]?
theorem Md.new (q : Nat) (wc : World) : Md q wc wc := ⟨Nat.le_refl _, fun _ _ _ => rfl⟩
theorem Md.alloc {q : Nat} {wc W : World} (h : Md q wc W) (o : Obj) : Md q wc (W.alloc o) :=
  ⟨by have := h.1; simp; omega, fun k h1 h2 => (Below.heap_alloc _ _ _ (Nat.lt_of_lt_of_le h2 h.1)).trans (h.2 k h1 h2)⟩
theorem Md.row {q g : Nat} {wc W : World} (h : Md q wc W) (hg : g < q ∨ wc.heap.size ≤ g) (cs : Array Value) : Md q wc (W.setRow g cs) :=
  ⟨by rw [setRow_size]; exact h.1, fun k h1 h2 => (setRow_other _ _ _ _ (by omega)).trans (h.2 k h1 h2)⟩
theorem Fr.mid {q : Nat} {wc W : World} {A : Option Addr} {n c : Nat} {l : Dl} (h : Fr wc q A n c l) (hm : Md q wc W) : Dd W A l :=
  ⟨h.dd.1, fun hl => by
    obtain ⟨b, off, hA, hd⟩ := h.dd.2 hl
    have hf := h.far _ hA
    exact ⟨b, off, hA, hd.ok, Nat.lt_of_lt_of_le hd.lt hm.1, fun j d hj i v hi => by
      rw [World.cell?_of_block (w := wc) (hm.2 b hf hd.lt)]; exact hd.at_ j d hj i v hi⟩⟩
theorem SgX.mid {q : Nat} {wc W : World} {v : Value} {idx : Int} {one path : Dl} (h : SgX wc q v idx one path) (hm : Md q wc W) : SgV W v idx one path := by
  obtain ⟨A, n, c, B, m, d, hv, h, k⟩ := h
  exact ⟨A, n, c, B, m, d, hv, ⟨h.len, h.le, h.max, h.mid hm⟩, ⟨k.len, k.le, k.max, k.mid hm⟩⟩
theorem step_store_row {P : Program} {ops : Array Oper} {o : Oper} {a : Act} {w : World} {K : Act → World → Prop} {Q : Exit → Act → World → Prop} {E : Prop} (hgd : o.guard = none) (ty : TypeId) (x y : Operand) (ho : o.op = .store ty x y)
    (g : Nat) (cells : Array Value) (hx : a.eval x = .pointer (some ⟨g, 0, none⟩)) (hy : a.eval y = .agg cells)
    (t : TypeId) (old : Array Value) (hg : w.heap[g]? = some (.cells old t (0, 0))) (hi : (P.info? ty).map (·.size) = some cells.size)
    (hold : old.size = cells.size) (h1 : cells.all (·.oneCell') = true)
    (h : K (a.put o.dst undef) (w.setRow g cells)) : if Region.wanted o (yielded ops a.tmps) = true then Oper.wp P o a w K Q else E := by
  have hw : Region.wanted o (yielded ops a.tmps) = true := by simp [Region.wanted, hgd]
  rw [if_pos hw]
  exact wp_store_row ty x y ho g cells hx hy t old hg hi hold h1 h
theorem infoSgr : (Tryd.prog.info? 30).map (·.size) = some 6 := by kernel_rfl
theorem infoSig : (Tryd.prog.info? 38).map (·.size) = some 3 := by kernel_rfl
theorem allR {w W : World} {p q : Nat} {o : Obj} {t : TypeId} {bs : List (Nat × Obj)} {z0 z1 z2 z3 z4 z5 : Value} {bl ol j : Nat} {l : Dl} {y0 y1 y2 y3 : Int} (h : Kx none w W ((p, o) :: (q, .cells #[z0, z1, z2, z3, z4, z5] t (0, 0)) :: bs)) (hd : DRow w bl ol l) (hj : l[j]? = some [y0, y1, y2, y3]) (hb : Below w.heap.size w W) :
    W.cell? ⟨q, 0, none⟩ = some z0 ∧ W.cell? ⟨q, 1, none⟩ = some z1 ∧ W.cell? ⟨q, 2, none⟩ = some z2 ∧ W.cell? ⟨q, 3, none⟩ = some z3 ∧ W.cell? ⟨q, 4, none⟩ = some z4 ∧ W.cell? ⟨q, 5, none⟩ = some z5 ∧ W.cell? ⟨bl, ol + j * 4, none⟩ = some (.int .u32 y0) ∧ W.cell? ⟨bl, ol + j * 4 + 1, none⟩ = some (.int .u32 y1) ∧ W.cell? ⟨bl, ol + j * 4 + 2, none⟩ = some (.int .u32 y2) ∧ W.cell? ⟨bl, ol + j * 4 + 3, none⟩ = some (.int .u32 y3) := by
  obtain ⟨a0, a1, a2, a3, a4, a5, _⟩ := cells6 (h.at 1 rfl)
  obtain ⟨b0, b1, b2, b3⟩ := (hd.kept hb).four hj
  exact ⟨a0, a1, a2, a3, a4, a5, b0, b1, b2, b3⟩
theorem allQR {w W : World} {p q r s g : Nat} {o o2 o3 : Obj} {t u : TypeId} {z0 z1 z2 z3 v0 v1 v2 : Value} {bl ol j : Nat} {l : Dl} {y0 y1 y2 y3 : Int} (h : Kx none w W [(p, o), (r, o2), (q, .cells #[z0, z1, z2, z3] t (0, 0)), (s, o3), (g, .cells #[v0, v1, v2] u (0, 0))]) (hd : DRow w bl ol l) (hj : l[j]? = some [y0, y1, y2, y3]) (hb : Below w.heap.size w W) :
    W.cell? ⟨q, 0, none⟩ = some z0 ∧ W.cell? ⟨q, 1, none⟩ = some z1 ∧ W.cell? ⟨q, 2, none⟩ = some z2 ∧ W.cell? ⟨q, 3, none⟩ = some z3 ∧ W.cell? ⟨g, 0, none⟩ = some v0 ∧ W.cell? ⟨g, 1, none⟩ = some v1 ∧ W.cell? ⟨g, 2, none⟩ = some v2 ∧ W.cell? ⟨bl, ol + j * 4, none⟩ = some (.int .u32 y0) ∧ W.cell? ⟨bl, ol + j * 4 + 1, none⟩ = some (.int .u32 y1) ∧ W.cell? ⟨bl, ol + j * 4 + 2, none⟩ = some (.int .u32 y2) ∧ W.cell? ⟨bl, ol + j * 4 + 3, none⟩ = some (.int .u32 y3) := by
  obtain ⟨a0, a1, a2, a3, _⟩ := cells4 (h.at 2 rfl)
  obtain ⟨c0, c1, c2, _⟩ := cells3 (h.at 4 rfl)
  obtain ⟨b0, b1, b2, b3⟩ := (hd.kept hb).four hj
  exact ⟨a0, a1, a2, a3, c0, c1, c2, b0, b1, b2, b3⟩
end Go.Proofs.YtfbefenagnlnfaaDoor
