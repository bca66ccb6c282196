/- Appending what may be nothing; what such an append keeps. -/
import Derived.Test.YtcjclbhkheogpaaDoorMerV
import Derived.Deep.AppendLies
set_option linter.unusedVariables false
namespace Go.Proofs.YtcjclbhkheogpaaDoor
open Go.RowKit

theorem run_append_none {P : Program} (w : World) (t ty e : TypeId) (i : TypeInfo) (ht : P.underlying t = some (.slice e)) (hi : P.info? e = some i) (b : Option Addr) (n cap c : Nat) (h : n ≤ cap) :
    (Builtin.append_ #[t, t] ty #[.slice b n cap, .slice none 0 c]).run P w = .ok (.slice b n cap) w := by
  cases b <;> simp [Builtin.append_, run_underlying ht, sizeOf, typeInfo, hi, Builtin.lenOf, Builtin.firstCells, h, storeCells]
theorem step_append_gen {P : Program} (w : World) {ops : Array Oper} {o : Oper} {a : Act} {K : Act → World → Prop} {Q : Exit → Act → World → Prop} {E : Prop} (hgd : o.guard = none) (s x : Operand) (t : TypeId)
    (ho : o.op = .call { callee := .builtin .append, args := #[s, x], argTypes := #[t, t] })
    (base : Nat) (e : TypeId) (i : TypeInfo) (z : Value) (size bytes : Nat) (ht : P.underlying t = some (.slice e)) (hi : P.info? e = some i) (hz : i.zero = some z)
    (hsize : i.size = size) (hby : i.bytes = bytes) (hzs : z.cells.size = size) (hsz : 0 < size)
    (v : Value) (n : Nat) (xs : List Value) (hs : a.eval s = v) (hown : w.ownsRow base e size v n xs)
    (A : Option Addr) (m c : Nat) (news : List Value) (hx : a.eval x = .slice A m c) (hA : A = none → m = 0) (hl : news.length = m * size) (hnews : ∀ ad, A = some ad → ∀ j u, news[j]? = some u → w.cell? (ad.add j) = some u) (h1 : ∀ u ∈ news, u.oneCell' = true)
    (h63 : n + m ≤ maxLen) (hbytes : (n + m) * bytes ≤ 140737488355328) (hbase : base ≤ w.heap.size)
    (h : ∀ v' w', w'.ownsRow base e size v' (n + m) (xs ++ news) → w.grownBy w' v.ownBlock → K (a.put o.dst v') w') :
    if Region.wanted o (yielded ops a.tmps) = true then Oper.wp P o a w K Q else E := by
  have hw : Region.wanted o (yielded ops a.tmps) = true := by simp [Region.wanted, hgd]
  rw [if_pos hw]
  obtain ⟨v', w', hr, h2, h3⟩ : ∃ v' w', (Builtin.append_ #[t, t] o.type #[v, .slice A m c]).run P w = .ok v' w' ∧ w'.ownsRow base e size v' (n + m) (xs ++ news) ∧ w.grownBy w' v.ownBlock := by
    cases A with
    | none =>
      have hm := hA rfl
      subst hm
      have hn : news = [] := List.eq_nil_of_length_eq_zero (by omega)
      subst hn
      refine ⟨v, w, ?_, by simpa using hown, ⟨rfl, rfl, rfl, Nat.le_refl _, fun _ _ _ => rfl⟩⟩
      rcases hown.2 with ⟨rfl, _⟩ | ⟨g, cap, cur, rfl, _, _, h4, _⟩
      · exact run_append_none w t _ e i ht hi none 0 0 c (Nat.le_refl _)
      · exact run_append_none w t _ e i ht hi _ n cap c h4
    | some ad =>
      obtain ⟨v', w', hr, h2, h3, _⟩ := run_append_own_at (P := P) w base t o.type e i z size bytes ht hi hz hsize hby hzs hsz v n xs hown ad m c news hl (hnews ad rfl) h1 h63 hbytes hbase
      exact ⟨v', w', hr, h2, h3⟩
  unfold Oper.wp execOp
  simp only [ho, resolve, invoke, builtin, Sem.run_bind, Sem.run_pure, Result.andThen_ok, List.map_toArray, List.map_cons, List.map_nil, hs, hx, hr]
  exact h v' w' h2 h3
theorem own_empty {w : World} {B N : Nat} {e : TypeId} (h : w.heap[N]? = some (.cells #[] e (0, 0))) (hB : B ≤ N) : w.ownsRow B e 4 (.slice (some ⟨N, 0, none⟩) 0 0) 0 [] :=
  ⟨rfl, .inr ⟨N, 0, #[], rfl, hB, h, Nat.le_refl _, Nat.zero_le _, rfl, rfl⟩⟩
theorem Kx.below {w W W' : World} {bs : List (Nat × Obj)} (h : Kx none w W bs) {B : Nat} (hb : Below B W W') (hB : W.heap.size = B) : Kx none w W' bs := by
  subst hB
  exact h.after hb
theorem Dd.belowB {w w' : World} {a : Option Addr} {l : Dl} (h : Dd w a l) {B : Nat} (hb : Below B w w') (hB : w.heap.size = B) : Dd w' a l := by
  subst hB
  exact h.kept hb
theorem mcs_one {l : Dl} : ∀ u ∈ mcs l, u.oneCell' = true := by
  intro u hu
  obtain ⟨d, _, hd⟩ := List.mem_flatMap.1 hu
  obtain ⟨z, _, rfl⟩ := List.mem_map.1 hd
  rfl
theorem Dd.news {w : World} {A : Option Addr} {l : Dl} (h : Dd w A l) : ∀ ad, A = some ad → ∀ j u, (mcs l)[j]? = some u → w.cell? (ad.add j) = some u := by
  intro ad he j u hu
  by_cases hl : l = []
  · subst hl; simp [mcs] at hu
  · obtain ⟨b, off, e, r⟩ := h.2 hl
    rw [he] at e
    injection e with e
    subst e
    exact cells_news l off r j u hu
theorem Dd.none_nil {w : World} {A : Option Addr} {l : Dl} {q : Nat} (h : Dd w A l) (hq : l.length = q) : A = none → q = 0 := by
  intro he
  by_cases hl : l = []
  · subst hl; simpa using hq.symm
  · obtain ⟨b, off, e, _⟩ := h.2 hl
    rw [he] at e; cases e
theorem Dd.own2 {w : World} {B n cap : Nat} {t : TypeId} {A : Option Addr} {l : Dl} (h : w.ownsRow B t 4 (.slice A n cap) n (mcs l)) (ho : Oks l) : n ≤ cap ∧ cap ≤ maxLen ∧ Dd w A l := by
  obtain ⟨a, c, e, _, h1, h2, h3⟩ := Dd.own h ho
  injection e with e1 e2 e3
  subst e1 e3
  exact ⟨h1, h2, h3⟩
theorem below_ap {B N : Nat} {wc W w4 : World} (h : Below B wc W) (hg : W.grownBy w4 (Value.ownBlock (.slice (some ⟨N, 0, none⟩) 0 0))) (hN : B ≤ N) (hs : B ≤ W.heap.size) : Below B wc w4 :=
  h.grown hg hs (fun k hk => by simp [Value.ownBlock] at hk; omega)
theorem left_ap {N M : Nat} {O : Obj} {W w4 : World} (hg : W.grownBy w4 (Value.ownBlock (.slice (some ⟨N, 0, none⟩) 0 0))) (h : W.heap[M]? = some O) (hne : M ≠ N) : w4.heap[M]? = some O := by
  rw [hg.block M (Array.getElem?_eq_some_iff.1 h).1 (by simp [Value.ownBlock]; exact hne)]
  exact h
theorem Dd.dropLast {w : World} {a : Option Addr} {l : Dl} (h : Dd w a l) : Dd w a l.dropLast :=
  ⟨h.1.dropLast, fun hl => by
    obtain ⟨b, off, e, r⟩ := h.2 (fun e => hl (by rw [e]; rfl))
    exact ⟨b, off, e, r.dropLast⟩⟩
theorem Kx.top {p : Option Nat} {w W : World} {bs : List (Nat × Obj)} (h : Kx p w W bs) : ∃ B, W.heap.size = B := ⟨_, rfl⟩
end Go.Proofs.YtcjclbhkheogpaaDoor
