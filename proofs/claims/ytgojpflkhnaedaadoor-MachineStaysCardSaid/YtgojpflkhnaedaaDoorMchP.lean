/- Stage 9: the laws' small; the struct of image, input and state as a row known whole. -/
import Derived.Test.YtgojpflkhnaedaaDoorMchN
import Derived.Test.YtgojpflkhnaedaaDoorMchK
import Derived.Test.YtgojpflkhnaedaaDoorMchL
set_option linter.unusedVariables false
namespace Go.Proofs.YtgojpflkhnaedaaDoor
open Go.RowKit

/-- The cells of image, input and state. -/
def asr (B : Option Addr) (m k : Nat) (d : Int) (inp : ByteArray) (row : Array Value) : Array Value := #[.slice B m k, .int .i64 d, .string inp] ++ row
section
variable (B : Option Addr) (m k : Nat) (d : Int) (inp : ByteArray) (row : Array Value)
theorem asr_0 : (asr B m k d inp row)[0]? = some (.slice B m k) := by
  unfold asr
  rw [Array.getElem?_append_left (by simp)]
  rfl
theorem asr_1 : (asr B m k d inp row)[1]? = some (.int .i64 d) := by
  unfold asr
  rw [Array.getElem?_append_left (by simp)]
  rfl
theorem asr_2 : (asr B m k d inp row)[2]? = some (.string inp) := by
  unfold asr
  rw [Array.getElem?_append_left (by simp)]
  rfl
theorem asr_row (j : Nat) : (asr B m k d inp row)[3 + j]? = row[j]? := by
  unfold asr
  rw [Array.getElem?_append_right (by simp)]
  simp
end
theorem asr_range {W : World} {q : Nat} {t : TypeId} {B : Option Addr} {m k : Nat} {d : Int} {inp : ByteArray} {row : Array Value} (h : W.heap[q]? = some (.cells (asr B m k d inp row) t (0, 0))) : W.rangeAt q 3 row.toList := fun j v hv => by
  refine row_cell h (3 + j) ?_
  rw [asr_row]
  simpa using hv
theorem asr_cell {W : World} {q : Nat} {t : TypeId} {B : Option Addr} {m k : Nat} {d : Int} {inp : ByteArray} {row : Array Value} (h : W.heap[q]? = some (.cells (asr B m k d inp row) t (0, 0))) (j i : Nat) (hi : i = 3 + j) {v : Value} (hv : row[j]? = some v) : W.cell? ⟨q, i, none⟩ = some v := by
  subst hi
  exact row_cell h (3 + j) (by rw [asr_row]; exact hv)
/-- What the laws' regions read of it. -/
theorem all25 {p : Option Nat} {w W : World} {q : Nat} {t : TypeId} {B : Option Addr} {m k : Nat} {d : Int} {inp : ByteArray} {row : Array Value} {bs : List (Nat × Obj)} (h : Kx p w W ((q, .cells (asr B m k d inp row) t (0, 0)) :: bs)) :
    W.rangeAt q 3 row.toList ∧ W.cell? ⟨q, 0, none⟩ = some (.slice B m k) ∧ W.cell? ⟨q, 1, none⟩ = some (.int .i64 d) ∧ W.cell? ⟨q, 2, none⟩ = some (.string inp) :=
  ⟨asr_range (h.at 0 rfl), row_cell (h.at 0 rfl) 0 (asr_0 _ _ _ _ _ _), row_cell (h.at 0 rfl) 1 (asr_1 _ _ _ _ _ _), row_cell (h.at 0 rfl) 2 (asr_2 _ _ _ _ _ _)⟩
theorem row_run_mid {P : Program} {o : Oper} {a : Act} {w : World} (ty : TypeId) (x : Operand) (ho : o.op = .load ty x) (b off : Nat) (hx : a.eval x = .pointer (some ⟨b, off, none⟩)) (C : Array Value) (d : TypeDesc) (hc : w.rangeAt b off C.toList)
    (hu : P.underlying ty = some d) (hd : d.isRow = true) (hi : (P.info? ty).map (·.size) = some C.size) : (execOp a.eval o).run P w = .ok (.value (.agg C)) w := by
  unfold execOp
  simp only [ho, hx, Instr.loadAt, Instr.sureAddr, Sem.run_bind, Sem.run_pure, Result.andThen_ok, run_loadVar_mid w b off ty C.toList d hc hu hd (by simpa using hi)]
theorem all02 {p : Option Nat} {w W : World} {q : Nat} {t : TypeId} {v0 v1 : Value} {bs : List (Nat × Obj)} (h : Kx p w W ((q, .cells #[v0, v1] t (0, 0)) :: bs)) : W.cell? ⟨q, 0, none⟩ = some v0 ∧ W.cell? ⟨q, 1, none⟩ = some v1 :=
  ⟨row_cell (h.at 0 rfl) 0 rfl, row_cell (h.at 0 rfl) 1 rfl⟩
theorem zer_len (d : Int) : (zer d).length ≤ 32768 := by
  unfold zer
  split
  · rw [List.length_replicate]; omega
  · simp
/-- Are image, input and state small? -/
def sml (m : Nat) (inp : ByteArray) (n : Nat) (x : Mst) : Prop := m ≤ 200 ∧ inp.size ≤ 200 ∧ n ≤ 200 ∧ x.out.size ≤ 70000 ∧ x.st < 4611686018427387904
instance (m : Nat) (inp : ByteArray) (n : Nat) (x : Mst) : Decidable (sml m inp n x) := inferInstanceAs (Decidable (_ ∧ _))
set_option maxRecDepth 100000 in
set_option maxHeartbeats 4000000 in
theorem small9 {A B : Option Addr} {n c m k : Nat} {d : Int} (inp : ByteArray) (x : Mst) (w : World) :
    Calls Tryd.prog 14 #[.agg #[.slice B m k, .int .i64 d], .string inp, .agg (stc x.pc x.g (.slice A n c) x.rd x.out x.st x.en)] w fun en w' => en = .returned (.bool (decide (sml m inp n x))) ∧ Below w.heap.size w w' := by
  have hk := ((Kx.nil none w).more (.cells #[.slice B m k, .int .i64 d] 24 (0, 0))).add (w.heap.size + 1) (by simp) (.cells (stc x.pc x.g (.slice A n c) x.rd x.out x.st x.en) 30 (0, 0))
  obtain ⟨W0, hW0⟩ : ∃ W, (w.alloc (.cells #[.slice B m k, .int .i64 d] 24 (0, 0))).alloc (.cells (stc x.pc x.g (.slice A n c) x.rd x.out x.st x.en) 30 (0, 0)) = W := ⟨_, rfl⟩
  rw [hW0] at hk
  have a0 : W0.cell? ⟨w.heap.size, 0, none⟩ = some (.slice B m k) := row_cell (hk.at 0 rfl) 0 rfl
  have a2 := row_cell (hk.at 1 rfl) 17 (stc_mem _ _ _ _ _ _ _)
  have a4 := row_cell (hk.at 1 rfl) 19 (stc_out _ _ _ _ _ _ _)
  have a5 := row_cell (hk.at 1 rfl) 20 (stc_st _ _ _ _ _ _ _)
  have HK := Lib.hid hk
  clear hk
  by_cases h0 : m ≤ 200
  · by_cases h1 : inp.size ≤ 200
    · by_cases h2 : n ≤ 200
      · by_cases h3 : x.out.size ≤ 70000
        · by_cases h4 : x.st < 4611686018427387904
          · rw [decide_eq_true (show sml m inp n x from ⟨h0, h1, h2, h3, h4⟩)]
            have e0 : decide ((m : Int) ≤ 200) = true := decide_eq_true (by omega)
            have e1 : decide ((inp.size : Int) ≤ 200) = true := decide_eq_true (by omega)
            have e2 : decide ((n : Int) ≤ 200) = true := decide_eq_true (by omega)
            have e3 : decide ((x.out.size : Int) ≤ 70000) = true := decide_eq_true (by omega)
            have e4 : decide (x.st < 4611686018427387904) = true := decide_eq_true (by omega)
            clear h0 h1 h2 h3 h4
            go_enter Tryd.func14, Tryd.ntmps14
            go_wp2_with fail
            go_ret
            exact ⟨rfl, HK.out.be.plain⟩
          · rw [decide_eq_false (show ¬ sml m inp n x from fun h => h4 h.2.2.2.2)]
            have e0 : decide ((m : Int) ≤ 200) = true := decide_eq_true (by omega)
            have e1 : decide ((inp.size : Int) ≤ 200) = true := decide_eq_true (by omega)
            have e2 : decide ((n : Int) ≤ 200) = true := decide_eq_true (by omega)
            have e3 : decide ((x.out.size : Int) ≤ 70000) = true := decide_eq_true (by omega)
            have e4 : decide (x.st < 4611686018427387904) = false := decide_eq_false (by omega)
            clear h0 h1 h2 h3 h4
            go_enter Tryd.func14, Tryd.ntmps14
            go_wp2_with fail
            go_ret
            exact ⟨rfl, HK.out.be.plain⟩
        · rw [decide_eq_false (show ¬ sml m inp n x from fun h => h3 h.2.2.2.1)]
          have e0 : decide ((m : Int) ≤ 200) = true := decide_eq_true (by omega)
          have e1 : decide ((inp.size : Int) ≤ 200) = true := decide_eq_true (by omega)
          have e2 : decide ((n : Int) ≤ 200) = true := decide_eq_true (by omega)
          have e3 : decide ((x.out.size : Int) ≤ 70000) = false := decide_eq_false (by omega)
          clear h0 h1 h2 h3
          go_enter Tryd.func14, Tryd.ntmps14
          go_wp2_with fail
          go_ret
          exact ⟨rfl, HK.out.be.plain⟩
      · rw [decide_eq_false (show ¬ sml m inp n x from fun h => h2 h.2.2.1)]
        have e0 : decide ((m : Int) ≤ 200) = true := decide_eq_true (by omega)
        have e1 : decide ((inp.size : Int) ≤ 200) = true := decide_eq_true (by omega)
        have e2 : decide ((n : Int) ≤ 200) = false := decide_eq_false (by omega)
        clear h0 h1 h2
        go_enter Tryd.func14, Tryd.ntmps14
        go_wp2_with fail
        go_ret
        exact ⟨rfl, HK.out.be.plain⟩
    · rw [decide_eq_false (show ¬ sml m inp n x from fun h => h1 h.2.1)]
      have e0 : decide ((m : Int) ≤ 200) = true := decide_eq_true (by omega)
      have e1 : decide ((inp.size : Int) ≤ 200) = false := decide_eq_false (by omega)
      clear h0 h1
      go_enter Tryd.func14, Tryd.ntmps14
      go_wp2_with fail
      go_ret
      exact ⟨rfl, HK.out.be.plain⟩
  · rw [decide_eq_false (show ¬ sml m inp n x from fun h => h0 h.1)]
    have e0 : decide ((m : Int) ≤ 200) = false := decide_eq_false (by omega)
    clear h0
    go_enter Tryd.func14, Tryd.ntmps14
    go_wp2_with fail
    go_ret
    exact ⟨rfl, HK.out.be.plain⟩
end Go.Proofs.YtgojpflkhnaedaaDoor
