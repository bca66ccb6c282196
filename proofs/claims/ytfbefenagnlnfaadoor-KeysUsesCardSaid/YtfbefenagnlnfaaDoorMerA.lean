/- Slices of digests: what is known of one that reads as a list. -/
import Derived.Test.YtfbefenagnlnfaaDoorDls
import Derived.Below
import Derived.Laws.OwnMore
set_option linter.unusedVariables false
namespace Go.Proofs.YtfbefenagnlnfaaDoor
open Go.RowKit

/-- From a place on lie the words of the digests of a list. -/
structure DRow (w : World) (b off : Nat) (l : Dl) : Prop where
  ok : Oks l
  lt : b < w.heap.size
  at_ : ∀ (j : Nat) (d : Ws), l[j]? = some d → ∀ (i : Nat) (v : Int), d[i]? = some v → w.cell? ⟨b, off + j * 4 + i, none⟩ = some (.int .u32 v)
theorem DRow.below {w w' : World} {b off : Nat} {l : Dl} (h : DRow w b off l) {B : Nat} (hb : Below B w w') (hB : b < B) : DRow w' b off l :=
  ⟨h.ok, Nat.lt_of_lt_of_le h.lt hb.size, fun j d hj i v hi => by rw [hb.cell (p := ⟨b, off + j * 4 + i, none⟩) hB]; exact h.at_ j d hj i v hi⟩
theorem DRow.kept {w w' : World} {b off : Nat} {l : Dl} (h : DRow w b off l) (hb : Below w.heap.size w w') : DRow w' b off l := h.below hb h.lt
theorem DRow.take {w : World} {b off : Nat} {l : Dl} (h : DRow w b off l) (k : Nat) : DRow w b off (l.take k) :=
  ⟨h.ok.take k, h.lt, fun j d hj i v hi => h.at_ j d (by
    rw [List.getElem?_take] at hj
    split at hj
    · exact hj
    · simp at hj) i v hi⟩
theorem DRow.dropLast {w : World} {b off : Nat} {l : Dl} (h : DRow w b off l) : DRow w b off l.dropLast := by
  rw [List.dropLast_eq_take]; exact h.take _
theorem DRow.drop {w : World} {b off : Nat} {l : Dl} (h : DRow w b off l) (k : Nat) : DRow w b (off + k * 4) (l.drop k) :=
  ⟨h.ok.drop k, h.lt, fun j d hj i v hi => by
    rw [List.getElem?_drop] at hj
    have := h.at_ (k + j) d hj i v hi
    rwa [Nat.add_mul, ← Nat.add_assoc] at this⟩
/-- The four cells of one of them. -/
theorem DRow.four {w : World} {b off : Nat} {l : Dl} (h : DRow w b off l) {j : Nat} {v0 v1 v2 v3 : Int} (hj : l[j]? = some [v0, v1, v2, v3]) :
    w.cell? ⟨b, off + j * 4, none⟩ = some (.int .u32 v0) ∧ w.cell? ⟨b, off + j * 4 + 1, none⟩ = some (.int .u32 v1) ∧ w.cell? ⟨b, off + j * 4 + 2, none⟩ = some (.int .u32 v2) ∧ w.cell? ⟨b, off + j * 4 + 3, none⟩ = some (.int .u32 v3) :=
  ⟨h.at_ j _ hj 0 v0 rfl, h.at_ j _ hj 1 v1 rfl, h.at_ j _ hj 2 v2 rfl, h.at_ j _ hj 3 v3 rfl⟩
theorem DRow.set {w : World} {b off : Nat} {l : Dl} (h : DRow w b off l) {p : Addr} (hp : p.block ≠ b) (v : Value) : DRow (w.setCell p v) b off l :=
  ⟨h.ok, by simpa using h.lt, fun j d hj i u hi => by
    rw [World.cell?_setCell_other w p ⟨b, off + j * 4 + i, none⟩ v (fun e => hp (by rw [e]))]
    exact h.at_ j d hj i u hi⟩
theorem DRow.alloc {w : World} {b off : Nat} {l : Dl} (h : DRow w b off l) (o : Obj) : DRow (w.alloc o) b off l :=
  h.kept ((Below.refl _ _).alloc (Nat.le_refl _) _)
theorem DRow.drew {w : World} {b off : Nat} {l : Dl} (h : DRow w b off l) : DRow w.drew b off l := ⟨h.ok, h.lt, h.at_⟩
theorem DRow.get {w : World} {b off : Nat} {l : Dl} (h : DRow w b off l) {j : Nat} (hj : j < l.length) : ∃ v0 v1 v2 v3 : Int, l[j]? = some [v0, v1, v2, v3] ∧ Ok4 [v0, v1, v2, v3] := by
  have e := List.getElem?_eq_getElem hj
  have ho := h.ok _ (List.getElem_mem hj)
  obtain ⟨v0, v1, v2, v3, hv, _⟩ := ok4 ho
  rw [hv] at ho e
  exact ⟨v0, v1, v2, v3, e, ho⟩
/-- A slice of digests that reads as a list: it leads to them, or the list is empty. -/
def Dd (w : World) (a : Option Addr) (l : Dl) : Prop := Oks l ∧ (l ≠ [] → ∃ b off, a = some ⟨b, off, none⟩ ∧ DRow w b off l)
theorem Dd.kept {w w' : World} {a : Option Addr} {l : Dl} (h : Dd w a l) (hb : Below w.heap.size w w') : Dd w' a l :=
  ⟨h.1, fun hl => by
    obtain ⟨b, off, e, r⟩ := h.2 hl
    exact ⟨b, off, e, r.kept hb⟩⟩
theorem Dd.row {w : World} {b off : Nat} {l : Dl} (h : DRow w b off l) : Dd w (some ⟨b, off, none⟩) l := ⟨h.ok, fun _ => ⟨b, off, rfl, h⟩⟩
theorem Dd.nil (w : World) (a : Option Addr) : Dd w a [] := ⟨fun d hd => by simp at hd, fun h => absurd rfl h⟩
theorem Dd.drew {w : World} {a : Option Addr} {l : Dl} (h : Dd w a l) : Dd w.drew a l := ⟨h.1, fun hl => by
    obtain ⟨b, off, e, r⟩ := h.2 hl
    exact ⟨b, off, e, r.drew⟩⟩
/-- The cells of a list of digests. -/
def mcs (l : Dl) : List Value := l.flatMap fun d => d.map (Value.int .u32)
theorem cs_append (a b : Dl) : mcs (a ++ b) = mcs a ++ mcs b := by simp [mcs]
theorem cs_one (d : Ws) : mcs [d] = d.map (Value.int .u32) := by simp [mcs]
theorem cs_length : ∀ {l : Dl}, Oks l → (mcs l).length = l.length * 4
  | [], _ => rfl
  | d :: l, h => by
    have h1 := (h d (by simp)).1
    have h2 := cs_length (l := l) (fun x hx => h x (by simp [hx]))
    have e : mcs (d :: l) = d.map (Value.int .u32) ++ mcs l := rfl
    rw [e, List.length_append, h2, List.length_map, h1, List.length_cons]; omega
theorem cs_at : ∀ {l : Dl}, Oks l → ∀ (j : Nat) (d : Ws), l[j]? = some d → ∀ (i : Nat) (v : Int), d[i]? = some v → (mcs l)[j * 4 + i]? = some (.int .u32 v)
  | [], _, j, d, hj, i, v, hi => by simp at hj
  | x :: l, h, 0, d, hj, i, v, hi => by
    have : x = d := by simpa using hj
    subst this
    have e : mcs (x :: l) = x.map (Value.int .u32) ++ mcs l := rfl
    have hl : i < (x.map (Value.int .u32)).length := by rw [List.length_map]; exact (List.getElem?_eq_some_iff.1 hi).1
    rw [e, Nat.zero_mul, Nat.zero_add, List.getElem?_append_left hl, List.getElem?_map, hi]
    rfl
  | x :: l, h, j + 1, d, hj, i, v, hi => by
    have h1 := (h x (by simp)).1
    have e : mcs (x :: l) = x.map (Value.int .u32) ++ mcs l := rfl
    have hl : (x.map (Value.int .u32)).length = 4 := by rw [List.length_map, h1]
    rw [e, List.getElem?_append_right (by omega), hl, show (j + 1) * 4 + i - 4 = j * 4 + i by omega]
    exact cs_at (fun y hy => h y (by simp [hy])) j d (by simpa using hj) i v hi
/-- A row of the call's own reads as a list. -/
theorem DRow.own {w : World} {B n cap g : Nat} {t : TypeId} {l : Dl} (h : w.ownsRow B t 4 (.slice (some ⟨g, 0, none⟩) n cap) n (mcs l)) (ho : Oks l) : DRow w g 0 l := by
  have hlt := (h.lt g rfl).2
  refine ⟨ho, hlt, fun j d hj i v hi => ?_⟩
  have hc := cs_at ho j d hj i v hi
  have h4 := ho d (List.mem_of_getElem? hj)
  have hi4 : i < 4 := by have := (List.getElem?_eq_some_iff.1 hi).1; rw [h4.1] at this; exact this
  have := h.cells (g := g) rfl (j * 4 + i) _ hc
  have e : (⟨g, 0, none⟩ : Addr).add (j * 4 + i) = ⟨g, 0 + j * 4 + i, none⟩ := by
    unfold Addr.add
    split
    · simp_all
    · simp
  rw [← e]; exact this
theorem Dd.own {w : World} {B n : Nat} {t : TypeId} {v : Value} {l : Dl} (h : w.ownsRow B t 4 v n (mcs l)) (ho : Oks l) : ∃ a cap, v = .slice a n cap ∧ l.length = n ∧ n ≤ cap ∧ cap ≤ maxLen ∧ Dd w a l := by
  have hl : l.length = n := by
    have := h.1
    rw [cs_length ho] at this
    omega
  rcases h.2 with ⟨rfl, rfl⟩ | ⟨g, cap, cur, rfl, h1, h2, h3, h4, h5, h6⟩
  · have : l = [] := List.eq_nil_of_length_eq_zero hl
    subst this
    exact ⟨none, 0, rfl, rfl, Nat.le_refl _, Nat.zero_le _, Dd.nil _ _⟩
  · exact ⟨_, cap, rfl, hl, h3, h4, Dd.row (DRow.own h ho)⟩
end Go.Proofs.YtfbefenagnlnfaaDoor
