/- Stage 9: two states in their boxes, stepped side by side; a row's load and store as steps of a region. -/
import Derived.Test.YtgojpflkhnaedaaDoorMchO
import Derived.Test.YtgojpflkhnaedaaDoorMchP
import Derived.Test.YtgojpflkhnaedaaDoorMchR
set_option linter.unusedVariables false
namespace Go.Proofs.YtgojpflkhnaedaaDoor
open Go.RowKit

theorem Rd.setRow0 {W : World} {A : Option Addr} {n q : Nat} {l : List Int} (h : Rd W A n l) (ho : n = 0 ∨ Off A q) (cs : Array Value) : Rd (W.setRow q cs) A n l := by
  rcases ho with h0 | ho
  · exact ⟨h.1, .inl h0, h.2.2⟩
  · exact h.setRow ho cs
theorem Frs.off0 {w : World} {A A' : Option Addr} {n q : Nat} (h : Frs w A A') (ho : n = 0 ∨ Off A q) (hq : q < w.heap.size) : n = 0 ∨ Off A' q := by
  rcases ho with h0 | ho
  · exact .inl h0
  · exact .inr (h.off ho hq)
theorem Rd.bd {W : World} {A : Option Addr} {n : Nat} {l : List Int} (h : Rd W A n l) : Bd l := h.2.2
theorem step_load_row9 {P : Program} {ops : Array Oper} {o : Oper} {a : Act} {w : World} {K : Act → World → Prop} {Q : Exit → Act → World → Prop} {E : Prop} (hgd : o.guard = none) (ty : TypeId) (x : Operand) (ho : o.op = .load ty x)
    (g : Nat) (hx : a.eval x = .pointer (some ⟨g, 0, none⟩)) (t : TypeId) (cs : Array Value) (fr : Nat × Nat) (d : TypeDesc) (hg : w.heap[g]? = some (.cells cs t fr))
    (hu : P.underlying ty = some d) (hd : (match d with | .struct _ | .array _ _ => true | _ => false) = true) (hi : (P.info? ty).map (·.size) = some cs.size)
    (h : K (a.put o.dst (.agg cs)) w) : if Region.wanted o (yielded ops a.tmps) = true then Oper.wp P o a w K Q else E := by
  have hw : Region.wanted o (yielded ops a.tmps) = true := by simp [Region.wanted, hgd]
  rw [if_pos hw]
  exact wp_load_row ty x ho g hx t cs fr d hg hu hd hi h
/-- The two states, each in its box, the image in its. -/
structure Rn (w W : World) (img : Array Value) (q7 q8 N : Nat) (A1 A2 : Option Addr) (c1 c2 : Nat) (x : Mst) : Prop where
  k : Kx none w W [(w.heap.size, .cells img 24 (0, 0)), (q7, .cells (stc x.pc x.g (.slice A1 N c1) x.rd x.out x.st x.en) 30 (0, 0)), (q8, .cells (stc x.pc x.g (.slice A2 N c2) x.rd x.out x.st x.en) 30 (0, 0))]
  r1 : Rd W A1 N x.mem
  r2 : Rd W A2 N x.mem
  o17 : N = 0 ∨ Off A1 q7
  o18 : N = 0 ∨ Off A1 q8
  o27 : N = 0 ∨ Off A2 q7
  o28 : N = 0 ∨ Off A2 q8
  b1 : N ≤ c1 ∧ c1 ≤ maxLen
  b2 : N ≤ c2 ∧ c2 ≤ maxLen
  g7 : w.heap.size ≤ q7
  g8 : w.heap.size ≤ q8
theorem Rn.after {w W W' : World} {img : Array Value} {q7 q8 N : Nat} {A1 A2 : Option Addr} {c1 c2 : Nat} {x : Mst} (h : Rn w W img q7 q8 N A1 A2 c1 c2 x) (hb : Below W.heap.size W W') : Rn w W' img q7 q8 N A1 A2 c1 c2 x :=
  ⟨h.k.after hb, h.r1.below hb, h.r2.below hb, h.o17, h.o18, h.o27, h.o28, h.b1, h.b2, h.g7, h.g8⟩
theorem Rn.drewn {w W : World} {img : Array Value} {q7 q8 N : Nat} {A1 A2 : Option Addr} {c1 c2 : Nat} {x : Mst} (h : Rn w W img q7 q8 N A1 A2 c1 c2 x) : Rn w W.drew img q7 q8 N A1 A2 c1 c2 x := h.after (Below.refl _ _).drew
theorem Rn.next {w W W2 : World} {img : Array Value} {q7 q8 N : Nat} {A1 A2 B1 B2 : Option Addr} {c1 c2 e1 e2 : Nat} {x y : Mst} (h : Rn w W img q7 q8 N A1 A2 c1 c2 x) (hb : Below W.heap.size W W2) (h1 : Rd W2 B1 N y.mem) (h2 : Rd W2 B2 N y.mem) (f1 : Frs W A1 B1) (f2 : Frs W A2 B2) (b1 : N ≤ e1 ∧ e1 ≤ maxLen) (b2 : N ≤ e2 ∧ e2 ≤ maxLen) :
    Rn w ((W2.setRow q7 (stc y.pc y.g (.slice B1 N e1) y.rd y.out y.st y.en)).setRow q8 (stc y.pc y.g (.slice B2 N e2) y.rd y.out y.st y.en)) img q7 q8 N B1 B2 e1 e2 y := by
  have l7 := h.k.lt 1 rfl
  have l8 := h.k.lt 2 rfl
  have p17 := f1.off0 h.o17 l7
  have p18 := f1.off0 h.o18 l8
  have p27 := f2.off0 h.o27 l7
  have p28 := f2.off0 h.o28 l8
  have k := ((h.k.after hb).putRow 1 rfl (.inr h.g7) (stc y.pc y.g (.slice B1 N e1) y.rd y.out y.st y.en)).putRow 2 rfl (.inr h.g8) (stc y.pc y.g (.slice B2 N e2) y.rd y.out y.st y.en)
  exact ⟨k, (h1.setRow0 p17 _).setRow0 p18 _, (h2.setRow0 p27 _).setRow0 p28 _, p17, p18, p27, p28, b1, b2, h.g7, h.g8⟩
theorem block_lt {w : World} {b off : Nat} {v : Value} (h : w.cell? ⟨b, off, none⟩ = some v) : b < w.heap.size := World.block_lt_of_cell? w _ h
theorem cell9 (w : World) (v0 v1 v2 v3 : Value) (t : TypeId) : (w.alloc (.cells #[v0, v1, v2, v3] t (0, 0))).cell? ⟨w.heap.size, 0, none⟩ = some v0 := row_cell (heap_alloc_new w _) 0 rfl
/-- An append of words onto a new empty row: what lay is as it was. -/
theorem v0g {w w5 w6 : World} {bs : List (Nat × Obj)} (h : Kx none w w5 bs) (E : Obj) (hg : (w5.alloc E).grownBy w6 (some w5.heap.size)) : Kx none w w6 bs := by
  have h2 := ((h.more E).first bs.length).grow hg (fun g e => by
    injection e with e
    subst e
    refine ⟨h.be.size, fun x hx => ?_⟩
    rw [List.take_left] at hx
    have := (h.all x hx).2
    omega)
  rwa [List.take_left] at h2
/-- What MachineHangs' last region reads. -/
theorem all27 {p : Option Nat} {w W : World} {q q1 q2 : Nat} {t t2 : TypeId} {O1 : Obj} {B : Option Addr} {m k : Nat} {d : Int} {inp : ByteArray} {row : Array Value} {v0 v1 : Value} {bs : List (Nat × Obj)} (h : Kx p w W ((q, .cells (asr B m k d inp row) t (0, 0)) :: (q1, O1) :: (q2, .cells #[v0, v1] t2 (0, 0)) :: bs)) :
    W.rangeAt q 3 row.toList ∧ W.cell? ⟨q, 0, none⟩ = some (.slice B m k) ∧ W.cell? ⟨q, 1, none⟩ = some (.int .i64 d) ∧ W.cell? ⟨q, 2, none⟩ = some (.string inp) ∧ W.cell? ⟨q2, 0, none⟩ = some v0 ∧ W.cell? ⟨q2, 1, none⟩ = some v1 :=
  ⟨(all25 h).1, (all25 h).2.1, (all25 h).2.2.1, (all25 h).2.2.2, row_cell (h.at 2 rfl) 0 rfl, row_cell (h.at 2 rfl) 1 rfl⟩
/-- The states from the beginning on. -/
def run9 (code : List Int) (inp : ByteArray) (d : Int) : Nat → Mst
  | 0 => mst0 d
  | i + 1 => nxt code inp (run9 code inp d i)
theorem zer_bd (d : Int) : Bd (zer d) := fun j => by
  unfold zer
  split
  · rw [List.getD_eq_getElem?_getD, List.getElem?_replicate]
    split <;> simp
  · simp
theorem nxt_bd {code : List Int} {inp : ByteArray} {x : Mst} (hg : Wg x.g) (hm : Bd x.mem) (hc : Bd code) : Bd (nxt code inp x).mem := by
  obtain ⟨pc, st, en, _, h | ⟨a, v, _, hv, h⟩ | ⟨a, v, _, hv, _, h⟩ | ⟨j, v, hv, h⟩ | ⟨b, _, h⟩⟩ := nxt_stp (inp := inp) hg hm hc <;> rw [h]
  · exact hm
  · exact hm
  · exact hm
  · intro i
    have hi := hm i
    dsimp only
    rw [List.getD_eq_getElem?_getD, List.getElem?_set]
    split
    · split
      · exact hv
      · simp
    · rw [← List.getD_eq_getElem?_getD]; exact hi
  · exact hm
theorem run9_ok {code : List Int} {inp : ByteArray} {d : Int} (hc : Bd code) : ∀ i, Wg (run9 code inp d i).g ∧ Bd (run9 code inp d i).mem ∧ 0 ≤ (run9 code inp d i).st ∧ (run9 code inp d i).st ≤ (i : Int)
  | 0 => ⟨fun _ => ⟨Int.le_refl 0, (by decide : (0 : Int) < 4294967296)⟩, zer_bd d, Int.le_refl 0, Int.le_refl 0⟩
  | i + 1 => by
    obtain ⟨h1, h2, h3, h4⟩ := run9_ok (inp := inp) (d := d) hc i
    have hs := nxt_stp (inp := inp) h1 h2 hc
    have h5 := hs.st
    refine ⟨hs.wg h1, nxt_bd h1 h2 hc, ?_, ?_⟩
    · show 0 ≤ (nxt code inp (run9 code inp d i)).st
      omega
    · show (nxt code inp (run9 code inp d i)).st ≤ _
      omega
end Go.Proofs.YtgojpflkhnaedaaDoor
