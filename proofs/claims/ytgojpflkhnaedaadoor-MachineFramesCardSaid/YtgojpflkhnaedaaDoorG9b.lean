/- What calls keep: all that was there but one block; some blocks known whole; their cells. Slices of words: what is known of one that reads as a list; their bytes. Words that came in: their cells; two cells of a block. -/
import Derived.Test.YtgojpflkhnaedaaDoorRet
import Derived.Below
import Derived.Laws.OwnMore
import Derived.Laws.Rows
import Derived.Laws.Tables
set_option linter.unusedVariables false
namespace Go.Proofs.YtgojpflkhnaedaaDoor
open Go.RowKit

theorem cells1 {w : World} {b : Nat} {t : TypeId} {v : Value} (h : w.heap[b]? = some (.cells #[v] t (0, 0))) : w.cell? ⟨b, 0, none⟩ = some v ∧ w.frozen? ⟨b, 0, none⟩ = false := by
  simp [World.cell?, World.frozen?, h]
theorem row1 {w : World} {b : Nat} {t : TypeId} {u : Value} (h : w.heap[b]? = some (.cells #[u] t (0, 0))) (v : Value) : (w.setCell ⟨b, 0, none⟩ v).heap[b]? = some (.cells #[v] t (0, 0)) := by
  rw [heap_setCell_same w b 0 _ t v h]; simp
theorem cells3 {w : World} {b : Nat} {t : TypeId} {v0 v1 v2 : Value} (h : w.heap[b]? = some (.cells #[v0, v1, v2] t (0, 0))) :
    w.cell? ⟨b, 0, none⟩ = some v0 ∧ w.cell? ⟨b, 1, none⟩ = some v1 ∧ w.cell? ⟨b, 2, none⟩ = some v2 ∧ w.frozen? ⟨b, 0, none⟩ = false ∧ w.frozen? ⟨b, 1, none⟩ = false ∧ w.frozen? ⟨b, 2, none⟩ = false := by
  simp [World.cell?, World.frozen?, h]
theorem row3 {w : World} {b : Nat} {t : TypeId} {u0 u1 u2 : Value} (h : w.heap[b]? = some (.cells #[u0, u1, u2] t (0, 0))) (v0 v1 v2 : Value) :
    (((w.setCell ⟨b, 0, none⟩ v0).setCell ⟨b, 1, none⟩ v1).setCell ⟨b, 2, none⟩ v2).heap[b]? = some (.cells #[v0, v1, v2] t (0, 0)) := by
  have e0 := heap_setCell_same w b 0 _ t v0 h
  have e1 := heap_setCell_same _ b 1 _ t v1 e0
  have e2 := heap_setCell_same _ b 2 _ t v2 e1
  simpa using e2
theorem cells4 {w : World} {b : Nat} {t : TypeId} {v0 v1 v2 v3 : Value} (h : w.heap[b]? = some (.cells #[v0, v1, v2, v3] t (0, 0))) :
    w.cell? ⟨b, 0, none⟩ = some v0 ∧ w.cell? ⟨b, 1, none⟩ = some v1 ∧ w.cell? ⟨b, 2, none⟩ = some v2 ∧ w.cell? ⟨b, 3, none⟩ = some v3 ∧
    w.frozen? ⟨b, 0, none⟩ = false ∧ w.frozen? ⟨b, 1, none⟩ = false ∧ w.frozen? ⟨b, 2, none⟩ = false ∧ w.frozen? ⟨b, 3, none⟩ = false := by
  simp [World.cell?, World.frozen?, h]
theorem row4 {w : World} {b : Nat} {t : TypeId} {u0 u1 u2 u3 : Value} (h : w.heap[b]? = some (.cells #[u0, u1, u2, u3] t (0, 0))) (v0 v1 v2 v3 : Value) :
    ((((w.setCell ⟨b, 0, none⟩ v0).setCell ⟨b, 1, none⟩ v1).setCell ⟨b, 2, none⟩ v2).setCell ⟨b, 3, none⟩ v3).heap[b]? = some (.cells #[v0, v1, v2, v3] t (0, 0)) := by
  have e0 := heap_setCell_same w b 0 _ t v0 h
  have e1 := heap_setCell_same _ b 1 _ t v1 e0
  have e2 := heap_setCell_same _ b 2 _ t v2 e1
  have e3 := heap_setCell_same _ b 3 _ t v3 e2
  rw [e3]
  simp
theorem cells6 {w : World} {b : Nat} {t : TypeId} {v0 v1 v2 v3 v4 v5 : Value} (h : w.heap[b]? = some (.cells #[v0, v1, v2, v3, v4, v5] t (0, 0))) :
    w.cell? ⟨b, 0, none⟩ = some v0 ∧ w.cell? ⟨b, 1, none⟩ = some v1 ∧ w.cell? ⟨b, 2, none⟩ = some v2 ∧ w.cell? ⟨b, 3, none⟩ = some v3 ∧ w.cell? ⟨b, 4, none⟩ = some v4 ∧ w.cell? ⟨b, 5, none⟩ = some v5 ∧
    w.frozen? ⟨b, 0, none⟩ = false ∧ w.frozen? ⟨b, 1, none⟩ = false ∧ w.frozen? ⟨b, 2, none⟩ = false ∧ w.frozen? ⟨b, 3, none⟩ = false ∧ w.frozen? ⟨b, 4, none⟩ = false ∧ w.frozen? ⟨b, 5, none⟩ = false := by
  simp [World.cell?, World.frozen?, h]
theorem row6 {w : World} {b : Nat} {t : TypeId} {u0 u1 u2 u3 u4 u5 : Value} (h : w.heap[b]? = some (.cells #[u0, u1, u2, u3, u4, u5] t (0, 0))) (v0 v1 v2 v3 v4 v5 : Value) :
    ((((((w.setCell ⟨b, 0, none⟩ v0).setCell ⟨b, 1, none⟩ v1).setCell ⟨b, 2, none⟩ v2).setCell ⟨b, 3, none⟩ v3).setCell ⟨b, 4, none⟩ v4).setCell ⟨b, 5, none⟩ v5).heap[b]? = some (.cells #[v0, v1, v2, v3, v4, v5] t (0, 0)) := by
  have e0 := heap_setCell_same w b 0 _ t v0 h
  have e1 := heap_setCell_same _ b 1 _ t v1 e0
  have e2 := heap_setCell_same _ b 2 _ t v2 e1
  have e3 := heap_setCell_same _ b 3 _ t v3 e2
  have e4 := heap_setCell_same _ b 4 _ t v4 e3
  have e5 := heap_setCell_same _ b 5 _ t v5 e4
  simpa using e5
/-- As Below, but for one block that the call may have changed. -/
structure Bx (p : Option Nat) (w w' : World) : Prop where
  os : w'.os = w.os
  tape : w'.tape = w.tape
  output : w'.output = w.output
  size : w.heap.size ≤ w'.heap.size
  block : ∀ k, k < w.heap.size → p ≠ some k → w'.heap[k]? = w.heap[k]?
theorem Bx.of {p : Option Nat} {w w' : World} (h : Below w.heap.size w w') : Bx p w w' := ⟨h.os, h.tape, h.output, h.size, fun k hk _ => h.block k hk⟩
theorem Bx.plain {w w' : World} (h : Bx none w w') : Below w.heap.size w w' := ⟨h.os, h.tape, h.output, h.size, fun k hk => h.block k hk (by simp)⟩
theorem Bx.to {p : Option Nat} {B : Nat} {w w' : World} (h : Bx p w w') (hB : B ≤ w.heap.size) (hp : ∀ q, p = some q → B ≤ q) : Below B w w' :=
  ⟨h.os, h.tape, h.output, h.size, fun k hk => h.block k (by omega) (fun e => by have := hp k e; omega)⟩
theorem Bx.then_ {p q : Option Nat} {w W W' : World} (h : Bx p w W) (k : Bx q W W') (hq : ∀ x, q = some x → p = some x ∨ w.heap.size ≤ x) : Bx p w W' :=
  ⟨k.os.trans h.os, k.tape.trans h.tape, k.output.trans h.output, Nat.le_trans h.size k.size, fun i hi hp => by
    rw [k.block i (Nat.lt_of_lt_of_le hi h.size) (fun e => by
      rcases hq i e with e | e
      · exact hp e
      · omega)]
    exact h.block i hi hp⟩
theorem Bx.set (w : World) (q i : Nat) (v : Value) : Bx (some q) w (w.setCell ⟨q, i, none⟩ v) :=
  ⟨rfl, rfl, rfl, by simp, fun k hk hp => heap_setCell_other _ _ _ _ (fun e => hp (by simpa using e.symm))⟩
/-- Blocks that are known whole. -/
structure Kx (p : Option Nat) (w W : World) (bs : List (Nat × Obj)) : Prop where
  all : ∀ x ∈ bs, W.heap[x.1]? = some x.2 ∧ x.1 < W.heap.size
  nd : (bs.map (·.1)).Nodup
  be : Bx p w W
theorem Kx.after {p : Option Nat} {w W W' : World} {bs : List (Nat × Obj)} (h : Kx p w W bs) (hb : Below W.heap.size W W') : Kx p w W' bs :=
  ⟨fun x hx => ⟨by rw [hb.block _ (h.all x hx).2]; exact (h.all x hx).1, Nat.lt_of_lt_of_le (h.all x hx).2 hb.size⟩, h.nd, h.be.then_ (q := none) (Bx.of hb) (by simp)⟩
theorem Kx.drew {p : Option Nat} {w W : World} {bs : List (Nat × Obj)} (h : Kx p w W bs) : Kx p w W.drew bs := ⟨h.all, h.nd, ⟨h.be.os, h.be.tape, h.be.output, h.be.size, h.be.block⟩⟩
theorem Kx.drewN {p : Option Nat} {w W : World} {bs : List (Nat × Obj)} (h : Kx p w W bs) (n : Nat) : Kx p w (W.drewN n) bs := ⟨h.all, h.nd, ⟨h.be.os, h.be.tape, h.be.output, h.be.size, h.be.block⟩⟩
theorem Kx.nil (p : Option Nat) (w : World) : Kx p w w [] := ⟨fun x hx => by simp at hx, by simp, Bx.of (Below.refl _ _)⟩
theorem Kx.one {w : World} {q : Nat} {O : Obj} (h : w.heap[q]? = some O) (p : Option Nat) : Kx p w w [(q, O)] :=
  ⟨fun x hx => by
    have : x = (q, O) := by simpa using hx
    subst this
    exact ⟨h, (Array.getElem?_eq_some_iff.1 h).1⟩, by simp, Bx.of (Below.refl _ _)⟩
theorem Kx.more {p : Option Nat} {w W : World} {bs : List (Nat × Obj)} (h : Kx p w W bs) (B : Obj) : Kx p w (W.alloc B) (bs ++ [(W.heap.size, B)]) := by
  refine ⟨fun x hx => ?_, ?_, h.be.then_ (q := none) (Bx.of ((Below.refl _ _).alloc (Nat.le_refl _) _)) (by simp)⟩
  · rcases List.mem_append.1 hx with hx | hx
    · obtain ⟨h1, h2⟩ := h.all x hx
      exact ⟨by rw [Below.heap_alloc _ _ _ h2]; exact h1, by simp; omega⟩
    · simp only [List.mem_cons, List.not_mem_nil, or_false] at hx
      subst hx
      exact ⟨heap_alloc_new _ _, by simp⟩
  · rw [List.map_append, List.nodup_append]
    refine ⟨h.nd, by simp, ?_⟩
    intro a ha b hb e
    obtain ⟨x, hx, rfl⟩ := List.mem_map.1 ha
    have := (h.all x hx).2
    have : b = W.heap.size := by simpa using hb
    omega
theorem Kx.add {p : Option Nat} {w W : World} {bs : List (Nat × Obj)} (h : Kx p w W bs) (n : Nat) (hn : W.heap.size = n) (B : Obj) : Kx p w (W.alloc B) (bs ++ [(n, B)]) := by
  subst hn
  exact h.more B
theorem Kx.at {p : Option Nat} {w W : World} {bs : List (Nat × Obj)} (h : Kx p w W bs) (i : Nat) {q : Nat} {O : Obj} (hx : bs[i]? = some (q, O)) : W.heap[q]? = some O := (h.all (q, O) (List.mem_of_getElem? hx)).1
theorem Kx.lt {p : Option Nat} {w W : World} {bs : List (Nat × Obj)} (h : Kx p w W bs) (i : Nat) {q : Nat} {O : Obj} (hx : bs[i]? = some (q, O)) : q < W.heap.size := (h.all (q, O) (List.mem_of_getElem? hx)).2
theorem Kx.afterq {p : Option Nat} {w W W' : World} {bs : List (Nat × Obj)} (h : Kx p w W bs) (i : Nat) {q : Nat} {O O' : Obj} (hx : bs[i]? = some (q, O)) (hq : p = some q ∨ w.heap.size ≤ q) (hb : Bx (some q) W W') (ho : W'.heap[q]? = some O') : Kx p w W' (bs.set i (q, O')) := by
  have hi := (List.getElem?_eq_some_iff.1 hx).1
  have he := (List.getElem?_eq_some_iff.1 hx).2
  have hlt := h.lt i hx
  refine ⟨?_, ?_, h.be.then_ hb (fun x e => by injection e with e; subst e; exact hq)⟩
  · intro x hx'
    obtain ⟨j, hj⟩ := List.mem_iff_getElem?.1 hx'
    rw [List.getElem?_set] at hj
    by_cases hij : i = j
    · subst hij
      rw [if_pos rfl, if_pos hi] at hj
      injection hj with hj
      subst hj
      exact ⟨ho, Nat.lt_of_lt_of_le hlt hb.size⟩
    · rw [if_neg hij] at hj
      obtain ⟨h1, h2⟩ := h.all x (List.mem_of_getElem? hj)
      have hne : x.1 ≠ q := by
        intro e
        have hj' := (List.getElem?_eq_some_iff.1 hj).1
        have hn := h.nd
        rw [List.nodup_iff_pairwise_ne, List.pairwise_iff_getElem] at hn
        have e1 : bs[j] = x := (List.getElem?_eq_some_iff.1 hj).2
        rcases Nat.lt_or_gt_of_ne hij with hl | hl
        · have := hn i j (by simpa using hi) (by simpa using hj') hl
          simp [he, e1, e] at this
        · have := hn j i (by simpa using hj') (by simpa using hi) hl
          simp [he, e1, e] at this
      exact ⟨by rw [hb.block _ h2 (fun e => hne (by injection e with e; exact e.symm))]; exact h1, Nat.lt_of_lt_of_le h2 hb.size⟩
  · have : (bs.set i (q, O')).map (·.1) = bs.map (·.1) := by
      rw [List.map_set]
      apply List.ext_getElem?
      intro j
      rw [List.getElem?_set]
      by_cases hij : i = j
      · subst hij
        rw [if_pos rfl, if_pos (by simpa using hi), List.getElem?_map, hx]; rfl
      · rw [if_neg hij]
    rw [this]; exact h.nd
theorem Bx.setn {q : Nat} {w W : World} (h : Bx (some q) w W) (i : Nat) (v : Value) : Bx (some q) w (W.setCell ⟨q, i, none⟩ v) := h.then_ (Bx.set W q i v) (fun x e => .inl e)
theorem Bx.rfl_ (p : Option Nat) (w : World) : Bx p w w := Bx.of (Below.refl _ _)
theorem Kx.grown {w W W' : World} {bs : List (Nat × Obj)} (h : Kx none w W bs) {row : Option Nat} (hg : W.grownBy W' row) (hr : ∀ g, row = some g → w.heap.size ≤ g) : Below w.heap.size w W' :=
  h.be.plain.grown hg h.be.size hr
theorem Kx.grow {w W W' : World} {bs : List (Nat × Obj)} (h : Kx none w W bs) {row : Option Nat} (hg : W.grownBy W' row) (hr : ∀ g, row = some g → w.heap.size ≤ g ∧ ∀ x ∈ bs, x.1 ≠ g) : Kx none w W' bs := by
  refine ⟨fun x hx => ?_, h.nd, Bx.of (h.be.plain.grown hg h.be.size fun g hk => (hr g hk).1)⟩
  obtain ⟨h1, h2⟩ := h.all x hx
  have e : W'.heap[x.1]? = W.heap[x.1]? := hg.block _ h2 (fun e => (hr x.1 e.symm).2 x hx rfl)
  exact ⟨by rw [e]; exact h1, by have := hg.size; omega⟩
theorem Kx.first {p : Option Nat} {w W : World} {bs : List (Nat × Obj)} (h : Kx p w W bs) (n : Nat) : Kx p w W (bs.take n) :=
  ⟨fun x hx => h.all x (List.mem_of_mem_take hx), by rw [List.map_take]; exact List.Sublist.nodup (List.take_sublist _ _) h.nd, h.be⟩
theorem Kx.perm {p : Option Nat} {w W : World} {bs cs : List (Nat × Obj)} (h : Kx p w W bs) (hp : cs.Perm bs) : Kx p w W cs :=
  ⟨fun x hx => h.all x (hp.mem_iff.1 hx), (hp.map _).nodup_iff.2 h.nd, h.be⟩
theorem Kx.swap34 {p : Option Nat} {w W : World} {a b c d e : Nat × Obj} (h : Kx p w W ([a, b, c] ++ [d] ++ [e])) : Kx p w W ([a, b, c] ++ [e] ++ [d]) :=
  h.perm (by
    show [a, b, c, e, d].Perm [a, b, c, d, e]
    exact (((List.Perm.swap d e []).cons c).cons b).cons a)
theorem Kx.put1 {p : Option Nat} {w W : World} {bs : List (Nat × Obj)} (h : Kx p w W bs) (i : Nat) {q : Nat} {t : TypeId} {u : Value} (hx : bs[i]? = some (q, .cells #[u] t (0, 0))) (hq : p = some q ∨ w.heap.size ≤ q) (v : Value) : Kx p w (W.setCell ⟨q, 0, none⟩ v) (bs.set i (q, .cells #[v] t (0, 0))) :=
  h.afterq i hx hq (Bx.set _ _ _ _) (row1 (h.at i hx) v)
theorem Kx.put4 {p : Option Nat} {w W : World} {bs : List (Nat × Obj)} (h : Kx p w W bs) (i : Nat) {q : Nat} {t : TypeId} {u0 u1 u2 u3 : Value} (hx : bs[i]? = some (q, .cells #[u0, u1, u2, u3] t (0, 0))) (hq : p = some q ∨ w.heap.size ≤ q) (v0 v1 v2 v3 : Value) :
    Kx p w ((((W.setCell ⟨q, 0, none⟩ v0).setCell ⟨q, 1, none⟩ v1).setCell ⟨q, 2, none⟩ v2).setCell ⟨q, 3, none⟩ v3) (bs.set i (q, .cells #[v0, v1, v2, v3] t (0, 0))) :=
  h.afterq i hx hq (((((Bx.rfl_ _ _).setn 0 _).setn 1 _).setn 2 _).setn 3 _) (row4 (h.at i hx) v0 v1 v2 v3)
theorem Kx.put3 {p : Option Nat} {w W : World} {bs : List (Nat × Obj)} (h : Kx p w W bs) (i : Nat) {q : Nat} {t : TypeId} {u0 u1 u2 : Value} (hx : bs[i]? = some (q, .cells #[u0, u1, u2] t (0, 0))) (hq : p = some q ∨ w.heap.size ≤ q) (v0 v1 v2 : Value) :
    Kx p w (((W.setCell ⟨q, 0, none⟩ v0).setCell ⟨q, 1, none⟩ v1).setCell ⟨q, 2, none⟩ v2) (bs.set i (q, .cells #[v0, v1, v2] t (0, 0))) :=
  h.afterq i hx hq ((((Bx.set W q 0 v0).setn 1 v1)).setn 2 v2) (row3 (h.at i hx) v0 v1 v2)
theorem Kx.put6 {p : Option Nat} {w W : World} {bs : List (Nat × Obj)} (h : Kx p w W bs) (i : Nat) {q : Nat} {t : TypeId} {u0 u1 u2 u3 u4 u5 : Value} (hx : bs[i]? = some (q, .cells #[u0, u1, u2, u3, u4, u5] t (0, 0))) (hq : p = some q ∨ w.heap.size ≤ q) (v0 v1 v2 v3 v4 v5 : Value) :
    Kx p w ((((((W.setCell ⟨q, 0, none⟩ v0).setCell ⟨q, 1, none⟩ v1).setCell ⟨q, 2, none⟩ v2).setCell ⟨q, 3, none⟩ v3).setCell ⟨q, 4, none⟩ v4).setCell ⟨q, 5, none⟩ v5) (bs.set i (q, .cells #[v0, v1, v2, v3, v4, v5] t (0, 0))) :=
  h.afterq i hx hq (((((Bx.set W q 0 v0).setn 1 v1).setn 2 v2).setn 3 v3).setn 4 v4 |>.setn 5 v5) (row6 (h.at i hx) v0 v1 v2 v3 v4 v5)
theorem Kx.putRow {p : Option Nat} {w W : World} {bs : List (Nat × Obj)} (h : Kx p w W bs) (i : Nat) {q : Nat} {t : TypeId} {old : Array Value} (hx : bs[i]? = some (q, .cells old t (0, 0))) (hq : p = some q ∨ w.heap.size ≤ q) (new : Array Value) : Kx p w (W.setRow q new) (bs.set i (q, .cells new t (0, 0))) :=
  h.afterq i hx hq ⟨rfl, rfl, rfl, by rw [setRow_size]; exact Nat.le_refl _, fun k hk hne => setRow_other _ _ _ _ (fun e => hne (by rw [e]))⟩ (setRow_heap _ _ _ _ _ _ (h.at i hx))
end Go.Proofs.YtgojpflkhnaedaaDoor
set_option linter.unusedVariables false
namespace Go.Proofs.YtgojpflkhnaedaaDoor
open Go.RowKit

/-- A slice of words that reads as the list zs. -/
def Rd (w : World) (a : Option Addr) (n : Nat) (zs : List Int) : Prop :=
  zs.length = n ∧ (n = 0 ∨ ∃ b off, a = some ⟨b, off, none⟩ ∧ b < w.heap.size ∧ ∀ j, j < n → w.cell? ⟨b, off + j, none⟩ = some (.int .u32 (zs.getD j 0))) ∧ ∀ j, 0 ≤ zs.getD j 0 ∧ zs.getD j 0 < 4294967296

theorem Rd.below {w w' : World} {a : Option Addr} {n : Nat} {zs : List Int} (h : Rd w a n zs) (hb : Below w.heap.size w w') : Rd w' a n zs := by
  obtain ⟨h1, h2, h3⟩ := h
  refine ⟨h1, ?_, h3⟩
  rcases h2 with h2 | ⟨b, off, ha, hlt, hc⟩
  · exact Or.inl h2
  · exact Or.inr ⟨b, off, ha, Nat.lt_of_lt_of_le hlt hb.size, fun j hj => (hb.cell (p := ⟨b, off + j, none⟩) hlt).trans (hc j hj)⟩

theorem rd_own {w : World} {B g n cap : Nat} {zs : List Int} (h : w.ownsRow B 27 1 (.slice (some ⟨g, 0, none⟩) n cap) n (zs.map (Value.int .u32))) (hl : zs.length = n) (hz : ∀ z ∈ zs, 0 ≤ z ∧ z < 4294967296) :
    Rd w (some ⟨g, 0, none⟩) n zs := by
  refine ⟨hl, Or.inr ⟨g, 0, rfl, (h.lt g rfl).2, ?_⟩, ?_⟩
  · intro j hj
    rw [Nat.zero_add, h.cellAt j (by omega)]
    simp [List.getElem?_map, List.getD, List.getElem?_eq_getElem (show j < zs.length by omega)]
  · intro j
    by_cases hj : j < zs.length
    · have := hz _ (List.getElem_mem hj)
      simpa [List.getD, hj] using this
    · simp [List.getD, List.getElem?_eq_none (by omega : zs.length ≤ j)]
end Go.Proofs.YtgojpflkhnaedaaDoor
set_option linter.unusedVariables false
namespace Go.Proofs.YtgojpflkhnaedaaDoor
open Go.RowKit

theorem cells2 {w : World} {b : Nat} {t : TypeId} {v0 v1 : Value} (h : w.heap[b]? = some (.cells #[v0, v1] t (0, 0))) :
    w.cell? ⟨b, 0, none⟩ = some v0 ∧ w.cell? ⟨b, 1, none⟩ = some v1 ∧ w.frozen? ⟨b, 0, none⟩ = false ∧ w.frozen? ⟨b, 1, none⟩ = false := by
  simp [World.cell?, World.frozen?, h]
theorem Rd.kx {w W : World} {bs : List (Nat × Obj)} {A : Option Addr} {n : Nat} {l : List Int} (h : Rd w A n l) (hk : Kx none w W bs) : Rd W A n l := h.below hk.be.plain
/-- The cell of one of the words. -/
theorem Rd.cell {w : World} {A : Option Addr} {n : Nat} {l : List Int} (h : Rd w A n l) {j : Nat} (hj : j < n) : ∃ b off, A = some ⟨b, off, none⟩ ∧ w.cell? ⟨b, off + j, none⟩ = some (.int .u32 (l.getD j 0)) := by
  rcases h.2.1 with h0 | ⟨b, off, hA, _, hc⟩
  · omega
  · exact ⟨b, off, hA, hc j hj⟩
theorem drop_eq {l : List Int} {k : Nat} (h : k < l.length) : l.drop k = l.getD k 0 :: l.drop (k + 1) := by
  rw [List.drop_eq_getElem_cons h, List.getD_eq_getElem?_getD, List.getElem?_eq_getElem h]; rfl
end Go.Proofs.YtgojpflkhnaedaaDoor
