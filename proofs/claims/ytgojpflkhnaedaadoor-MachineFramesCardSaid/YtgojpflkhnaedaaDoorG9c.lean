/- The machine as plain functions: states, a word of a row, a step; no program in sight. A state's cells lie in memory as a row that is known whole: row laws. The reference's Text. Words in memory: a row of its own known whole, with one word another one; one byte as a text. -/
import Derived.Test.YtgojpflkhnaedaaDoorInsM
import Derived.Test.YtgojpflkhnaedaaDoorMath
import Derived.Test.YtgojpflkhnaedaaDoorG9b
import Derived.Great.BuildSlice
import Derived.StillTailTactics
import Derived.Test.YtgojpflkhnaedaaDoorRet
import Derived.Test.YtgojpflkhnaedaaDoorNumM
import Derived.Below
import Derived.LaidLaws
import Derived.Laws.IdiomStrings
set_option linter.unusedVariables false
namespace Go.Proofs.YtgojpflkhnaedaaDoor
open Go

/-- A state: place, registers, memory, bytes read, bytes put out, steps, end. -/
structure Mst where
  pc : Int
  g : Nat → Int
  mem : List Int
  rd : Int
  out : ByteArray
  st : Int
  en : Int
/-- The cells of a state whose memory is the slice M. -/
def stc (pc : Int) (g : Nat → Int) (M : Value) (rd : Int) (out : ByteArray) (st en : Int) : Array Value :=
  #[.int .i64 pc, .int .u32 (g 0), .int .u32 (g 1), .int .u32 (g 2), .int .u32 (g 3), .int .u32 (g 4), .int .u32 (g 5), .int .u32 (g 6), .int .u32 (g 7), .int .u32 (g 8), .int .u32 (g 9), .int .u32 (g 10), .int .u32 (g 11), .int .u32 (g 12), .int .u32 (g 13), .int .u32 (g 14), .int .u32 (g 15), M, .int .i64 rd, .string out, .int .i64 st, .int .i64 en]
def gset (g : Nat → Int) (a : Nat) (v : Int) : Nat → Int := fun i => if i = a then v else g i
/-- The registers are words. -/
def Wg (g : Nat → Int) : Prop := ∀ i, 0 ≤ g i ∧ g i < 4294967296
theorem Wg.set {g : Nat → Int} (h : Wg g) (a : Nat) {v : Int} (hv : 0 ≤ v ∧ v < 4294967296) : Wg (gset g a v) := fun i => by
  unfold gset
  split
  · exact hv
  · exact h i
theorem stc_get (pc : Int) (g : Nat → Int) (M : Value) (rd : Int) (out : ByteArray) (st en : Int) (a : Nat) (ha : a < 16) : (stc pc g M rd out st en)[1 + a]? = some (.int .u32 (g a)) := by
  have : a = 0 ∨ a = 1 ∨ a = 2 ∨ a = 3 ∨ a = 4 ∨ a = 5 ∨ a = 6 ∨ a = 7 ∨ a = 8 ∨ a = 9 ∨ a = 10 ∨ a = 11 ∨ a = 12 ∨ a = 13 ∨ a = 14 ∨ a = 15 := by omega
  rcases this with rfl | rfl | rfl | rfl | rfl | rfl | rfl | rfl | rfl | rfl | rfl | rfl | rfl | rfl | rfl | rfl <;> rfl
theorem stc_set (pc : Int) (g : Nat → Int) (M : Value) (rd : Int) (out : ByteArray) (st en : Int) (a : Nat) (ha : a < 16) (v : Int) : (stc pc g M rd out st en).setIfInBounds (1 + a) (.int .u32 v) = stc pc (gset g a v) M rd out st en := by
  have : a = 0 ∨ a = 1 ∨ a = 2 ∨ a = 3 ∨ a = 4 ∨ a = 5 ∨ a = 6 ∨ a = 7 ∨ a = 8 ∨ a = 9 ∨ a = 10 ∨ a = 11 ∨ a = 12 ∨ a = 13 ∨ a = 14 ∨ a = 15 := by omega
  rcases this with rfl | rfl | rfl | rfl | rfl | rfl | rfl | rfl | rfl | rfl | rfl | rfl | rfl | rfl | rfl | rfl <;> simp [gset, stc]
section
variable (pc : Int) (g : Nat → Int) (M : Value) (rd : Int) (out : ByteArray) (st en : Int)
theorem stc_size : (stc pc g M rd out st en).size = 22 := rfl
theorem stc_one (A : Option Addr) (n c : Nat) : (stc pc g (.slice A n c) rd out st en).all (·.oneCell') = true := by simp [stc, Value.oneCell']
theorem stc_pc : (stc pc g M rd out st en)[0]? = some (.int .i64 pc) := rfl
theorem stc_mem : (stc pc g M rd out st en)[17]? = some M := rfl
theorem stc_rd : (stc pc g M rd out st en)[18]? = some (.int .i64 rd) := rfl
theorem stc_out : (stc pc g M rd out st en)[19]? = some (.string out) := rfl
theorem stc_st : (stc pc g M rd out st en)[20]? = some (.int .i64 st) := rfl
theorem stc_en : (stc pc g M rd out st en)[21]? = some (.int .i64 en) := rfl
theorem set_pc (x : Int) : (stc pc g M rd out st en).setIfInBounds 0 (.int .i64 x) = stc x g M rd out st en := rfl
theorem set_mem (x : Value) : (stc pc g M rd out st en).setIfInBounds 17 x = stc pc g x rd out st en := rfl
theorem set_rd (x : Int) : (stc pc g M rd out st en).setIfInBounds 18 (.int .i64 x) = stc pc g M x out st en := rfl
theorem set_out (x : ByteArray) : (stc pc g M rd out st en).setIfInBounds 19 (.string x) = stc pc g M rd x st en := rfl
theorem set_st (x : Int) : (stc pc g M rd out st en).setIfInBounds 20 (.int .i64 x) = stc pc g M rd out x en := rfl
theorem set_en (x : Int) : (stc pc g M rd out st en).setIfInBounds 21 (.int .i64 x) = stc pc g M rd out st x := rfl
end
/-- The number of a word of a row; is there such a one. -/
def wat (b c : Int) : Int := (b + c) % 4294967296
def whs (l : List Int) (b c : Int) : Bool := decide (wat b c < (l.length : Int))
def wof (l : List Int) (b c : Int) : Int := if whs l b c then l.getD (wat b c).toNat 0 else 0
def Mst.ended (x : Mst) (e : Int) : Mst := { x with en := e }
def Mst.jump (x : Mst) (t : Int) : Mst := { x with pc := t }
def Mst.setr (x : Mst) (a : Nat) (v : Int) : Mst := { x with g := gset x.g a v, pc := x.pc + 1 }
def byt (v : Int) : UInt8 := UInt8.ofNat (v % 256).toNat
/-- What an instruction does (op, A, B, C; the state's Steps count it already). -/
def xop (code : List Int) (inp : ByteArray) (x : Mst) (op : Int) (a b : Nat) (c : Int) : Mst :=
  if 4 ≤ op ∧ op ≤ 15 then (if er op (x.g c.toNat) = 0 then x.setr a (ap op (x.g b) (x.g c.toNat)) else x.ended 2)
  else if op = 1 then x.setr a c
  else if op = 2 then x.setr a (x.g a % 65536 + c * 65536)
  else if op = 3 then x.setr a (x.g b)
  else if op = 16 then (if whs x.mem (x.g b) c then x.setr a (wof x.mem (x.g b) c) else x.ended 8)
  else if op = 17 then (if whs x.mem (x.g b) c then { x with mem := x.mem.set (wat (x.g b) c).toNat (x.g a), pc := x.pc + 1 } else x.ended 8)
  else if op = 18 then x.jump c
  else if op = 19 then x.jump (if x.g a = 0 then c else x.pc + 1)
  else if op = 20 then x.jump (if x.g a = 0 then x.pc + 1 else c)
  else if op = 21 then (x.setr a ((x.pc + 1) % 4294967296)).jump c
  else if op = 22 then x.jump (x.g a)
  else if op = 23 then (if 0 ≤ x.rd ∧ x.rd < (inp.size : Int) then { x.setr a (((inp.data.toList.map fun u => (u.toNat : Int)).getD x.rd.toNat 0)) with rd := x.rd + 1 } else x.setr a 256)
  else if op = 24 then (if x.out.size < 65536 then { x with out := x.out ++ ⟨#[byt (x.g a)]⟩, pc := x.pc + 1 } else x.ended 4)
  else if op = 25 then (if x.g a < c then x.jump (x.pc + 1) else x.ended 3)
  else if op = 27 then (if whs code (x.g b) c then x.setr a (wof code (x.g b) c) else x.ended 8)
  else x.ended 1
/-- A step. -/
def nxt (code : List Int) (inp : ByteArray) (x : Mst) : Mst :=
  if x.en ≠ 0 then x
  else if x.pc < 0 ∨ (code.length : Int) ≤ x.pc then x.ended 7
  else
    let v := code.getD x.pc.toNat 0
    let y : Mst := { x with st := x.st + 1 }
    if rgt (v / 16777216) (v / 1048576 % 16) (v / 65536 % 16) (v % 65536) then xop code inp y (v / 16777216) (v / 1048576 % 16).toNat (v / 65536 % 16).toNat (v % 65536)
    else y.ended 6
end Go.Proofs.YtgojpflkhnaedaaDoor
set_option linter.unusedVariables false
namespace Go.Proofs.YtgojpflkhnaedaaDoor
open Go.RowKit

theorem infoS : (Tryd.prog.info? 30).map (·.size) = some 22 := by kernel_rfl
theorem infoS2 {cs : Array Value} (h : cs.size = 22) : (Tryd.prog.info? 30).map (·.size) = some cs.size := by rw [h]; exact infoS
theorem row_froz {W : World} {b : Nat} {t : TypeId} {cs : Array Value} (h : W.heap[b]? = some (.cells cs t (0, 0))) (i : Nat) : W.frozen? ⟨b, i, none⟩ = false := by simp [World.frozen?, h]
theorem row_cell {W : World} {b : Nat} {t : TypeId} {cs : Array Value} (h : W.heap[b]? = some (.cells cs t (0, 0))) (i : Nat) {v : Value} (hv : cs[i]? = some v) : W.cell? ⟨b, i, none⟩ = some v := by simp [World.cell?, h, hv]
theorem Kx.putc {p : Option Nat} {w W : World} {bs : List (Nat × Obj)} (h : Kx p w W bs) (i : Nat) {q : Nat} {t : TypeId} {cs : Array Value} (hx : bs[i]? = some (q, .cells cs t (0, 0))) (hq : p = some q ∨ w.heap.size ≤ q) (j : Nat) (v : Value) {cs' : Array Value} (e : cs.setIfInBounds j v = cs') :
    Kx p w (W.setCell ⟨q, j, none⟩ v) (bs.set i (q, .cells cs' t (0, 0))) := by
  have h1 := heap_setCell_same W q j cs t v (h.at i hx)
  rw [e] at h1
  exact h.afterq i hx hq (Bx.set W q j v) h1
theorem slice_one (A : Option Addr) (n c : Nat) : (Value.slice A n c).oneCell' = true := rfl
theorem wat_range (b c : Int) : 0 ≤ wat b c ∧ wat b c < 4294967296 := by unfold wat; omega
theorem still_load_row {P : Program} {o : Oper} {a : Act} {w : World} {next : Act → Prop} (ty : TypeId) (x : Operand) (ho : o.op = .load ty x) (g : Nat) (hx : a.eval x = .pointer (some ⟨g, 0, none⟩)) (t : TypeId) (cs : Array Value) (fr : Nat × Nat) (d : TypeDesc) (hg : w.heap[g]? = some (.cells cs t fr))
    (hu : P.underlying ty = some d) (hd : (match d with | .struct _ | .array _ _ => true | _ => false) = true) (hi : (P.info? ty).map (·.size) = some cs.size) (h : next (a.put o.dst (.agg cs))) : o.still P a w next := by
  unfold Oper.still execOp
  simp only [ho, hx, Instr.loadAt, Instr.sureAddr, Sem.run_bind, Sem.run_pure, Result.andThen_ok, run_loadVar_row w g t ty cs fr d hg hu hd hi]
  rw [Oper.stillUpon_value]
  exact h
theorem still_row {P : Program} {ops : Array Oper} {o : Oper} {rest : List Oper} {a : Act} {w : World} {Q : Act → Prop} (hgd : o.guard = none) (ty : TypeId) (x : Operand) (ho : o.op = .load ty x) (g : Nat) (hx : a.eval x = .pointer (some ⟨g, 0, none⟩)) (t : TypeId) (cs : Array Value) (fr : Nat × Nat) (d : TypeDesc) (hg : w.heap[g]? = some (.cells cs t fr))
    (hu : P.underlying ty = some d) (hd : (match d with | .struct _ | .array _ _ => true | _ => false) = true) (hi : (P.info? ty).map (·.size) = some cs.size) (h : wpStill P ops w Q rest (a.put o.dst (.agg cs))) : wpStill P ops w Q (o :: rest) a := by
  refine wpStill_step (fun K hK => ?_)
  rw [if_pos (by simp [Region.wanted, hgd])]
  exact still_load_row ty x ho g hx t cs fr d hg hu hd hi (hK _ h)
end Go.Proofs.YtgojpflkhnaedaaDoor
set_option linter.unusedVariables false
namespace Go.Proofs.YtgojpflkhnaedaaDoor
open Go.RowKit

open Go.Lib in
theorem length_dec : ∀ (k u : Nat), u < 10 ^ (k + 1) → (decDigits u).length ≤ k + 1 := by
  intro k
  induction k with
  | zero => intro u h; rw [decDigits_one (by simpa using h)]; simp
  | succ k ih =>
    intro u h
    rw [decDigits]
    split
    · simp
    · have := ih (u / 10) (by rw [Nat.pow_succ] at h; omega)
      rw [List.length_append]; simp; omega
open Go.Lib in
theorem dec_step (c : Nat) (h : 9 < c) : decDigits c = decDigits (c / 10) ++ [UInt8.ofNat (48 + c % 10)] := by
  rw [decDigits, dif_neg (by omega)]
theorem one_byte (w : World) (x : Nat) (y : Int) (d : UInt8) (hx : x < 256) (hy : y = (x : Int)) (hd : UInt8.ofNat x = d) :
    (convert 68 9 (.slice (some ⟨w.heap.size, 0, none⟩) 1 1)).run Tryd.prog (w.alloc (.cells #[.int .u8 y] 5)) = .ok (.string ⟨[d].toArray⟩) (w.alloc (.cells #[.int .u8 y] 5)) := by
  subst hy hd
  refine run_convert_bytes_back (P := Tryd.prog) _ 68 9 5 ⟨w.heap.size, 0, none⟩ 1 [UInt8.ofNat x] Tryd.underlying68 Tryd.underlying5 Tryd.underlying9 ?_
  intro j hj
  have e : (UInt8.ofNat x).toNat = x := by simp; omega
  match j, hj with
  | 0, _ =>
    show _ = some (Value.int .u8 ((UInt8.ofNat x).toNat : Int))
    rw [e]; simp [Addr.add]
  | n + 1, hj => simp at hj
theorem join_str (d : UInt8) (r : List UInt8) : (⟨[d].toArray⟩ : ByteArray) ++ ⟨r.toArray⟩ = ⟨(d :: r).toArray⟩ := by
  apply ByteArray.ext
  simp

end Go.Proofs.YtgojpflkhnaedaaDoor
set_option linter.unusedVariables false
namespace Go.Proofs.YtgojpflkhnaedaaDoor
open Go.RowKit

theorem one_byt (w : World) (x : Int) (hx : 0 ≤ x) : (convert 68 9 (.slice (some ⟨w.heap.size, 0, none⟩) 1 1)).run Tryd.prog (w.alloc (.cells #[.int .u8 (x % 256)] 5)) = .ok (.string ⟨#[byt x]⟩) (w.alloc (.cells #[.int .u8 (x % 256)] 5)) :=
  one_byte w (x % 256).toNat (x % 256) (byt x) (by omega) (by omega) rfl
theorem rd_news {W : World} {A : Option Addr} {n : Nat} {l : List Int} (hn : 0 < n) (h : Rd W A n l) : ∃ b off, A = some ⟨b, off, none⟩ ∧ ∀ j u, (l.map (Value.int .u32))[j]? = some u → W.cell? ((⟨b, off, none⟩ : Addr).add j) = some u := by
  rcases h.2.1 with h0 | ⟨b2, off2, e, _, hc⟩
  · omega
  · refine ⟨b2, off2, e, fun j u hu => ?_⟩
    have hj : j < l.length := by have := (List.getElem?_eq_some_iff.1 hu).1; simpa using this
    have hx := hc j (by have := h.1; omega)
    have ha : (⟨b2, off2, none⟩ : Addr).add j = ⟨b2, off2 + j, none⟩ := by unfold Addr.add; split <;> simp_all
    rw [ha, hx]
    simp [List.getD, hj] at hu ⊢
    exact hu
theorem rd_new {W : World} {b off n : Nat} {l : List Int} (hn : 0 < n) (h : Rd W (some ⟨b, off, none⟩) n l) : ∀ j u, (l.map (Value.int .u32))[j]? = some u → W.cell? ((⟨b, off, none⟩ : Addr).add j) = some u := by
  obtain ⟨b2, off2, e, hc⟩ := rd_news hn h
  injection e with e
  injection e with e1 e2 _
  subst e1 e2
  exact hc
theorem u32_cell (l : List Int) : ∀ u ∈ l.map (Value.int .u32), u.oneCell' = true := by
  intro u hu
  obtain ⟨x, _, rfl⟩ := List.mem_map.1 hu
  rfl
theorem v1g {w w5 w6 : World} {a b : Nat × Obj} (h : Kx none w w5 [a, b]) (E : Obj) (hg : (w5.alloc E).grownBy w6 (some w5.heap.size)) : Kx none w w6 [a, b] :=
  ((h.more E).first 2).grow hg (fun g e => by
    injection e with e
    subst e
    refine ⟨h.be.size, fun x hx => ?_⟩
    have := (h.all x hx).2
    omega)
theorem kx_row9 {w W : World} {bs : List (Nat × Obj)} (h : Kx none w W bs) {B g n cap : Nat} {xs : List Value} (ho : W.ownsRow B 27 1 (.slice (some ⟨g, 0, none⟩) n cap) n xs) (hne : ∀ x ∈ bs, x.1 ≠ g) :
    ∃ cur : Array Value, Kx none w W (bs ++ [(g, .cells cur 27 (0, 0))]) ∧ n ≤ cap ∧ cur.size = cap ∧ cap ≤ maxLen ∧ cur.toList.take n = xs := by
  rcases ho.2 with ⟨h0, _⟩ | ⟨g', cap', cur, h1, _, hh, hc, hm, hs, ht⟩
  · cases h0
  · injection h1 with h1 h2 h3
    injection h1 with h1
    injection h1 with h1
    subst h1 h3
    refine ⟨cur, ⟨fun x hx => ?_, ?_, h.be⟩, hc, by rw [hs, Nat.mul_one], hm, by rw [← ht, Nat.mul_one]⟩
    · rcases List.mem_append.1 hx with hx | hx
      · exact h.all x hx
      · simp only [List.mem_singleton] at hx
        subst hx
        exact ⟨hh, (Array.getElem?_eq_some_iff.1 hh).1⟩
    · have := h.nd
      rw [List.map_append, List.nodup_append]
      refine ⟨this, by simp, ?_⟩
      intro a ha b hb e
      obtain ⟨x, hx, rfl⟩ := List.mem_map.1 ha
      simp at hb
      exact hne x hx (e.trans hb)
theorem rd_blk {W : World} {g n : Nat} {cur : Array Value} {l : List Int} (h : W.heap[g]? = some (.cells cur 27 (0, 0))) (ht : cur.toList.take n = l.map (Value.int .u32)) (hl : l.length = n) (hw : W32s l) : Rd W (some ⟨g, 0, none⟩) n l := by
  refine ⟨hl, .inr ⟨g, 0, rfl, (Array.getElem?_eq_some_iff.1 h).1, fun j hj => ?_⟩, fun j => ?_⟩
  · have hc : W.cell? ⟨g, 0 + j, none⟩ = cur[j]? := by simp [World.cell?, h]
    have h2 : cur.toList[j]? = (l.map (Value.int .u32))[j]? := by rw [← ht, List.getElem?_take, if_pos hj]
    rw [hc, ← Array.getElem?_toList, h2, List.getElem?_map, List.getD_eq_getElem?_getD, List.getElem?_eq_getElem (show j < l.length by omega)]
    rfl
  · rw [List.getD_eq_getElem?_getD]
    cases hx : l[j]? with
    | none => simp
    | some x => exact hw x (List.mem_of_getElem? hx)
theorem set_take {cur : Array Value} {n j : Nat} {l : List Int} (x : Int) (ht : cur.toList.take n = l.map (Value.int .u32)) : (cur.setIfInBounds j (.int .u32 x)).toList.take n = (l.set j x).map (Value.int .u32) := by
  rw [Array.toList_setIfInBounds, List.take_set, ht, List.map_set]
theorem w32_set {l : List Int} (h : W32s l) {j : Nat} {x : Int} (hx : 0 ≤ x ∧ x < 4294967296) : W32s (l.set j x) := fun z hz => by
  rcases List.mem_or_eq_of_mem_set hz with h2 | h2
  · exact h z h2
  · rw [h2]; exact hx
end Go.Proofs.YtgojpflkhnaedaaDoor
