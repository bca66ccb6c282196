/- A range over a function whose iterator keeps what is still to come in one box of its own, and goes on to its end. -/
import Derived.RangeFuncNested
import Derived.RangeFuncCalls
import Derived.Test.YtmifiadkhmglmaaRet
set_option linter.unusedVariables false
namespace Go.Proofs.Ytmifiadkhmglmaa
open Go.RowKit

/-- The iterator's promise: whatever abides new blocks and turns of its box is led through all of ys. -/
def OneBox {α : Type} (F : Fence) (n : Nat) (P : Program) (gf : Nat) (lb : Array Value) (encs : α → Array Value) (b : Nat) (ys : List α) (w : World) : Prop :=
  ∀ (l : Nat) (J : List α → World → Prop) (W : World), W.heap[b]? = w.heap[b]? →
    (∀ s A C row, J s A → A.grownBy C row → (∀ r, row = some r → r = b) → J s C) →
    (∀ pre x U, J pre U → pre.length < ys.length → YieldAt F (n - 1) P l (encs x) U fun e U' => e = .returned (.bool true) ∧ J (pre ++ [x]) U' ∧ U'.heap[b]? = U.heap[b]?) →
    J [] W → CallsIn F n P gf (#[.func (.yield l) #[] #[]] ++ lb) W fun e W' => (∃ v, e = .returned v) ∧ J ys W'
/-- The caller's invariant: new blocks, the iterator's box, and what from B on is no cells are nothing to it. -/
def Minds {β : Type} (B b : Nat) (I : β → World → Prop) : Prop :=
  ∀ s A C row, I s A → A.grownBy C row → (∀ r, row = some r → r = b ∨ (B ≤ r ∧ ∃ o : Obj, A.heap[r]? = some o ∧ o.isCells = false)) → I s C
theorem Minds.and {β : Type} {B b : Nat} {I J : β → World → Prop} (h : Minds B b I) (k : Minds B b J) : Minds B b (fun s W => I s W ∧ J s W) :=
  fun s A C row hs hg hr => ⟨h s A C row hs.1 hg hr, k s A C row hs.2 hg hr⟩
/-- How a round's body ends: off its end. -/
def boxPost {α : Type} (B b : Nat) (I : List α → World → Prop) (xs : List α) (W : World) : Exit → Act → World → Prop
  | .normal, _, W' => KeepsFrom B W W' ∧ W'.heap[b]? = W.heap[b]? ∧ I xs W'
  | _, _, _ => False
theorem range_box {F : Fence} {n : Nat} {P : Program} {α : Type} {g : Operand} {ps : Array Tmp} {assign body : Code} {Q : Exit → Act → World → Prop} {a : Act} {w : World}
    (hro : F.round = none) (h1 : 1 ≤ n) {gf : Nat} {lb : Array Value} (hg : a.eval g = .func (.func gf) #[] lb) (hFg : F.fn gf) (eg : ∀ args w, (callFunc gf args).run P w = .ok (.enter gf args) w)
    {encs : α → Array Value} {b : Nat} {ys : List α} (hb : b < w.heap.size) (hseq : OneBox F (n - 1) P gf lb encs b ys w) (hps : ∀ x, (encs x).size = ps.size)
    (I : List α → World → Prop) (hI : Minds w.heap.size b I) (h0 : I [] w) (act : α → Act)
    (hassign : ∀ (l : Nat) (x : α) (W : World) (K : Act → World → Prop), K (act x) W →
      assign.wpIn (F.inRound l) (n - 1 - 1) P (Exit.then K (fun _ _ _ => False)) { tmps := (ps.zip (encs x)).foldl (fun t (p, v) => t.setIfInBounds p v) a.tmps, defers := [] } W)
    (hbody : ∀ (l : Nat) (pre : List α) (x : α) (W : World), I pre W → pre.length < ys.length → body.wpIn (F.inRound l) (n - 1 - 1) P (boxPost w.heap.size b I (pre ++ [x]) W) (act x) W)
    (hdone : ∀ (D : Nat) (W : World), w.heap.size ≤ D → I ys W → W.heap[D]? = some (.deferred (some [])) → Q .normal { a with defers := { target := .collected D, args := #[] } :: a.defers } W) :
    (Code.rangeFunc g ps assign body).wpIn F n P Q a w := by
  refine wpIn_rangeFunc fun fn hfn => ?_
  rw [hro]
  -- the record of the loop, in each of its states, and the block of its deferred calls
  obtain ⟨R, hR⟩ : ∃ R : LoopState → Obj, R = fun st => .loop { state := st, pending := none, fn, tmps := a.tmps, params := ps, assign, body, defers := w.heap.size } := ⟨_, rfl⟩
  have hRc : ∀ st, (R st).isCells = false := fun st => by rw [hR]; rfl
  let W1 := (w.alloc (.deferred (some []))).alloc (R .ready)
  have s1 : W1.heap.size = w.heap.size + 2 := by simp [W1]
  have l1 : W1.heap[w.heap.size + 1]? = some (R .ready) := by
    have h := World.alloc_heap_new (w.alloc (.deferred (some []))) (R .ready)
    rwa [World.size_alloc] at h
  have d1 : W1.heap[w.heap.size]? = some (.deferred (some [])) := (Below.heap_alloc _ _ _ (by simp)).trans (World.alloc_heap_new w _)
  have b1 : W1.heap[b]? = w.heap[b]? := (Below.heap_alloc _ _ _ (by simp; omega)).trans (Below.heap_alloc _ _ _ hb)
  have i1 : I [] W1 := by
    refine hI [] _ _ none (hI [] _ _ none h0 (World.grownBy_alloc w _ none) (fun r e => by cases e)) (World.grownBy_alloc _ _ none) (fun r e => by cases e)
  have iput : ∀ (s : List α) (W : World) (o : Obj), I s W → W.heap[w.heap.size + 1]? = some o → o.isCells = false → ∀ o', I s (W.putObj (w.heap.size + 1) o') := fun s W o hi hl ho o' =>
    hI s W _ (some (w.heap.size + 1)) hi (grownBy_putObj' W _ o') (fun r e => by cases e; exact .inr ⟨by omega, o, hl, ho⟩)
  refine ⟨w.heap.size + 1, [{ target := .collected w.heap.size, args := #[] }], W1, { target := .fn (.func gf) lb, args := #[.func (.yield (w.heap.size + 1)) #[] #[]] }, W1, gf, #[.func (.yield (w.heap.size + 1)) #[] #[]] ++ lb, W1, ?_, ?_, ?_, ?_, fun _ => h1, ?_⟩
  · show _ = Result.ok _ ((w.alloc (.deferred (some []))).alloc (R .ready))
    rw [hR]
    exact run_enterLoop_outer _ _ _ _ _
  · simp only [resolve, hg]
    simp [go_sem]
  · intro f' hf'
    simp [Target.leads] at hf'
    subst hf'
    exact hFg
  · simp [invoke, go_sem, eg]
  · refine (hseq (w.heap.size + 1) (fun pre W => I pre W ∧ W.heap[w.heap.size + 1]? = some (R .ready) ∧ W.heap[w.heap.size]? = some (.deferred (some []))) W1 b1 ?_ ?_ ⟨i1, l1, d1⟩).mono ?_
    · rintro s A C row ⟨hi, hl, hd⟩ hg2 hr
      refine ⟨hI s A C row hi hg2 (fun r e => .inl (hr r e)), ?_, ?_⟩
      · exact (hg2.block _ (Array.getElem?_eq_some_iff.1 hl).1 (fun e => by have := hr _ e.symm; omega)).trans hl
      · exact (hg2.block _ (Array.getElem?_eq_some_iff.1 hd).1 (fun e => by have := hr _ e.symm; omega)).trans hd
    · rintro pre x W ⟨hi, hl, hd⟩ hlen
      have hlt := (Array.getElem?_eq_some_iff.1 hl).1
      have hl' := hl
      rw [hR] at hl'
      refine ⟨fn, _, assign, body, run_yield (P := P) (args := encs x) hl' (hps x), roundIn_of_wpIn hfn (hassign _ x W _ ⟨_, run_beginRound hl' rfl, ?_⟩)⟩
      obtain ⟨W2, hW2⟩ : ∃ W2, W.putObj (w.heap.size + 1) (R .busy) = W2 := ⟨_, rfl⟩
      have l2 : W2.heap[w.heap.size + 1]? = some (R .busy) := by rw [← hW2]; exact World.putObj_heap_same hlt
      have d2 : W2.heap[w.heap.size]? = some (.deferred (some [])) := by rw [← hW2]; exact (World.putObj_heap_other (by omega)).trans hd
      have b2 : W2.heap[b]? = W.heap[b]? := by rw [← hW2]; exact World.putObj_heap_other (by omega)
      have i2 : I pre W2 := by rw [← hW2]; exact iput pre W _ hi hl (hRc _) _
      have hgo := hbody (w.heap.size + 1) pre x W2 i2 hlen
      rw [← hW2, hR] at hgo
      refine wpIn_mono hgo ?_
      rintro e a3 W3 hp
      cases e with
      | normal =>
        obtain ⟨k3, b3, i3⟩ := hp
        have e2 : W.putObj (w.heap.size + 1) (R .busy) = W2 := hW2
        rw [hR] at e2
        dsimp only at e2
        rw [e2] at k3 b3
        have l3 := k3.same _ _ (by omega) l2 (hRc _)
        have d3 := k3.same _ _ (Nat.le_refl _) d2 rfl
        have l3' := l3
        rw [hR] at l3'
        have hend := run_endRound (P := P) none l3'
        refine ⟨_, _, hend, rfl, ⟨?_, ?_, ?_⟩, ?_⟩
        · exact iput _ W3 _ i3 l3 (hRc _) _
        · rw [hR]; exact World.putObj_heap_same (Array.getElem?_eq_some_iff.1 l3).1
        · exact (World.putObj_heap_other (by omega)).trans d3
        · exact (World.putObj_heap_other (by omega)).trans (b3.trans b2)
      | ret => exact hp.elim
      | exit id => exact hp.elim
      | goto t => exact hp.elim
      | panic c => exact hp.elim
      | outgrown => exact hp.elim
    · rintro e W2 ⟨⟨v, rfl⟩, hi, hl, hd⟩
      have hl' := hl
      rw [hR] at hl'
      exact ⟨none, _, run_endLoop (P := P) hl' (by simp), hdone _ _ (Nat.le_refl _) (iput _ _ _ hi hl (hRc _) _) ((World.putObj_heap_other (by omega)).trans hd)⟩
end Go.Proofs.Ytmifiadkhmglmaa
