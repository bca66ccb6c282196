/- The reference of layer 9: Step: the next state, whatever the instruction. -/
import Derived.Test.YtgojpflkhnaedaaDoorMchF
import Derived.Test.YtgojpflkhnaedaaDoorMchH
import Derived.Test.YtgojpflkhnaedaaDoorMchI
import Derived.Test.YtgojpflkhnaedaaDoorMchJ
import Derived.Test.YtgojpflkhnaedaaDoorMchO
set_option linter.unusedVariables false
namespace Go.Proofs.YtgojpflkhnaedaaDoor
open Go.RowKit

theorem rgt_mst {op a b c : Int} (h : rgt op a b c = true) : c ≤ mst op := by
  unfold rgt at h
  simp only [Bool.and_eq_true, decide_eq_true_eq] at h
  exact (wi_bounds h.2 (mst_le op).1).2
theorem mst_two {op : Int} (h : 4 ≤ op ∧ op ≤ 15) : mst op = 15 := by
  have : op = 4 ∨ op = 5 ∨ op = 6 ∨ op = 7 ∨ op = 8 ∨ op = 9 ∨ op = 10 ∨ op = 11 ∨ op = 12 ∨ op = 13 ∨ op = 14 ∨ op = 15 := by omega
  rcases this with rfl | rfl | rfl | rfl | rfl | rfl | rfl | rfl | rfl | rfl | rfl | rfl <;> decide +kernel
theorem er_two {o b : Int} (h : 4 ≤ o ∧ o ≤ 15) (hz : ¬ er o b = 0) : er o b = 14 := by
  unfold er at hz ⊢
  by_cases h1 : o = 7 ∨ o = 8
  · rw [if_pos h1] at hz ⊢
    by_cases h2 : b = 0
    · rw [if_pos h2]
    · rw [if_neg h2] at hz; exact absurd rfl hz
  · rw [if_neg h1, if_pos h] at hz; exact absurd rfl hz
theorem rd_w32 {w : World} {A : Option Addr} {n : Nat} {l : List Int} (h : Rd w A n l) : W32s l := fun z hz => by
  obtain ⟨i, hi⟩ := List.getElem?_of_mem hz
  have := h.2.2 i
  rwa [List.getD_eq_getElem?_getD, hi] at this
/-- A state's value, in the world w', its memory the slice A or made since w. -/
def StV (w : World) (A : Option Addr) (w' : World) (n : Nat) (v : Value) (x : Mst) : Prop := ∃ A' c, v = .agg (stc x.pc x.g (.slice A' n c) x.rd x.out x.st x.en) ∧ Rd w' A' n x.mem ∧ n ≤ c ∧ c ≤ maxLen ∧ Frs w A A'
theorem step_fin {f : Nat} {args : Array Value} {w : World} {y : Mst} {A : Option Addr} {n c : Nat} (hR : Rd w A n y.mem) (h1 : n ≤ c) (h2 : c ≤ maxLen)
    (h : Calls Tryd.prog f args w fun e w' => e = .returned (.agg (stc y.pc y.g (.slice A n c) y.rd y.out y.st y.en)) ∧ Below w.heap.size w w') :
    Calls Tryd.prog f args w fun e w' => ∃ v, e = .returned v ∧ StV w A w' n v y ∧ Below w.heap.size w w' := by
  refine h.mono ?_
  rintro e w' ⟨rfl, hb⟩
  exact ⟨_, rfl, ⟨A, c, rfl, hR.below hb, h1, h2, .inl rfl⟩, hb⟩
theorem nxt_op {code : List Int} {inp : ByteArray} {p : Nat} {g : Nat → Int} {mem : List Int} {rd st : Int} {out : ByteArray} (hp : p < code.length) {v o a b c : Int} (hv : code.getD p 0 = v) (ho : v / 16777216 = o) (ha : v / 1048576 % 16 = a) (hb : v / 65536 % 16 = b) (hc : v % 65536 = c) :
    nxt code inp ⟨(p : Int), g, mem, rd, out, st, 0⟩ = if rgt o a b c then xop code inp ⟨(p : Int), g, mem, rd, out, st + 1, 0⟩ o a.toNat b.toNat c else ⟨(p : Int), g, mem, rd, out, st + 1, 6⟩ := by
  unfold nxt
  rw [if_neg (by simp), if_neg (by simp only [not_or]; omega)]
  simp only [Int.toNat_natCast, hv, ho, ha, hb, hc]
  rfl
theorem nxt_end {code : List Int} {inp : ByteArray} {x : Mst} (h : ¬ x.en = 0) : nxt code inp x = x := if_pos h
theorem nxt_out {code : List Int} {inp : ByteArray} {pc : Int} {g : Nat → Int} {mem : List Int} {rd st : Int} {out : ByteArray} (h : pc < 0 ∨ (code.length : Int) ≤ pc) :
    nxt code inp ⟨pc, g, mem, rd, out, st, 0⟩ = ⟨pc, g, mem, rd, out, st, 7⟩ := by
  unfold nxt
  rw [if_neg (by simp), if_pos h]
  rfl
set_option maxRecDepth 100000 in
set_option maxHeartbeats 4000000 in
theorem step9_ref {A B : Option Addr} {n c m k : Nat} {code : List Int} {d : Int} (inp : ByteArray) (x : Mst) (w : World) (hc : Rd w B m code) (hm : m ≤ 1073741824) (hR : Rd w A n x.mem) (hn : n ≤ 1073741824) (hn1 : n ≤ c) (hn2 : c ≤ maxLen)
    (hg : Wg x.g) (hst : -9223372036854775808 ≤ x.st ∧ x.st < 4611686018427387904) (hin : inp.size ≤ 1073741824) :
    Calls Tryd.prog 16 #[.agg #[.slice B m k, .int .i64 d], .string inp, .agg (stc x.pc x.g (.slice A n c) x.rd x.out x.st x.en)] w fun e w' => ∃ v, e = .returned v ∧ StV w A w' n v (nxt code inp x) ∧ Below w.heap.size w w' := by
  obtain ⟨pc, g, mem, rd, out, st, en⟩ := x
  dsimp only at hR hg hst ⊢
  have hcl := hc.1
  by_cases he : en = 0
  · subst he
    by_cases hlo : pc < 0
    · rw [nxt_out (.inl hlo)]
      exact step_fin (y := ⟨pc, g, mem, rd, out, st, 7⟩) hR hn1 hn2 (step_low pc g A n c rd out st 0 (code := code) inp w rfl hlo)
    · by_cases hhi : (m : Int) ≤ pc
      · rw [nxt_out (.inr (by rw [hcl]; exact hhi))]
        exact step_fin (y := ⟨pc, g, mem, rd, out, st, 7⟩) hR hn1 hn2 (step_high pc g A n c rd out st 0 (code := code) inp w rfl (by omega) hhi)
      · obtain ⟨p, rfl⟩ : ∃ p : Nat, pc = (p : Int) := ⟨pc.toNat, by omega⟩
        have hp : p < m := by omega
        obtain ⟨v, hv⟩ : ∃ v, code.getD p 0 = v := ⟨_, rfl⟩
        have hvb : 0 ≤ v ∧ v < 4294967296 := by rw [← hv]; exact hc.2.2 p
        obtain ⟨o, ho⟩ : ∃ o, v / 16777216 = o := ⟨_, rfl⟩
        obtain ⟨ai, hai⟩ : ∃ a, v / 1048576 % 16 = a := ⟨_, rfl⟩
        obtain ⟨bi, hbi⟩ : ∃ b, v / 65536 % 16 = b := ⟨_, rfl⟩
        obtain ⟨cc, hcc⟩ : ∃ c, v % 65536 = c := ⟨_, rfl⟩
        rw [nxt_op (by rw [hcl]; exact hp) hv ho hai hbi hcc]
        have hd : dcd v = if rgt o ai bi cc then #[.int .i64 o, .int .i64 ai, .int .i64 bi, .int .i64 cc] else #[.int .i64 0, .int .i64 0, .int .i64 0, .int .i64 0] := by unfold dcd; rw [ho, hai, hbi, hcc]
        have hde : dce v = if rgt o ai bi cc then 0 else 7 := by unfold dce; rw [ho, hai, hbi, hcc]
        cases hr : rgt o ai bi cc with
        | false =>
          rw [hr] at hd hde
          exact step_fin (y := ⟨(p : Int), g, mem, rd, out, st + 1, 6⟩) hR hn1 hn2 (step_bad p g A n c rd out st inp v w hc hm hp hv hst hd hde)
        | true =>
          rw [hr] at hd hde
          rw [if_pos rfl]
          have hbd := rgt_bounds hr
          obtain ⟨a, rfl⟩ : ∃ a : Nat, ai = (a : Int) := ⟨ai.toNat, by omega⟩
          obtain ⟨b, rfl⟩ : ∃ b : Nat, bi = (b : Int) := ⟨bi.toNat, by omega⟩
          rw [Int.toNat_natCast, Int.toNat_natCast]
          have ha : a < 16 := by omega
          have hb : b < 16 := by omega
          have hcb : 0 ≤ cc ∧ cc ≤ 65535 := hbd.2.2.2
          by_cases ht : 4 ≤ o ∧ o ≤ 15
          · obtain ⟨r, rfl⟩ : ∃ r : Nat, cc = (r : Int) := ⟨cc.toNat, by omega⟩
            have hr16 : r < 16 := by
              have := rgt_mst hr
              rw [mst_two ht] at this
              omega
            by_cases hz : er o (g r) = 0
            · rw [show xop code inp ⟨(p : Int), g, mem, rd, out, st + 1, 0⟩ o a b (r : Int) = ⟨(p : Int) + 1, gset g a (ap o (g b) (g r)), mem, rd, out, st + 1, 0⟩ from by
                unfold xop
                rw [if_pos ht, Int.toNat_natCast]
                show (if er o (g r) = 0 then _ else _) = _
                rw [if_pos hz]; rfl]
              exact step_fin (y := ⟨(p : Int) + 1, gset g a (ap o (g b) (g r)), mem, rd, out, st + 1, 0⟩) hR hn1 hn2 (step_ap_ok p g A n c rd out st inp v w hc hm hp hv hst hd hde ha hb hcb ht hr16 (hg b) (hg r) hz)
            · rw [show xop code inp ⟨(p : Int), g, mem, rd, out, st + 1, 0⟩ o a b (r : Int) = ⟨(p : Int), g, mem, rd, out, st + 1, 2⟩ from by
                unfold xop
                rw [if_pos ht, Int.toNat_natCast]
                show (if er o (g r) = 0 then _ else _) = _
                rw [if_neg hz]; rfl]
              exact step_fin (y := ⟨(p : Int), g, mem, rd, out, st + 1, 2⟩) hR hn1 hn2 (step_ap_zero p g A n c rd out st inp v w hc hm hp hv hst hd hde ha hb hcb ht hr16 (hg b) (hg r) (er_two ht hz))
          · rcases op_cases hbd.1 with rfl | rfl | rfl | rfl | rfl | rfl | rfl | rfl | rfl | rfl | rfl | rfl | rfl | rfl | rfl | rfl | rfl | rfl | rfl | rfl | rfl | rfl | rfl | rfl | rfl | rfl | rfl
            · rw [show xop code inp ⟨(p : Int), g, mem, rd, out, st + 1, 0⟩ 1 a b cc = ⟨(p : Int) + 1, gset g a cc, mem, rd, out, st + 1, 0⟩ from by simp [xop]; rfl]
              exact step_fin (y := ⟨(p : Int) + 1, gset g a cc, mem, rd, out, st + 1, 0⟩) hR hn1 hn2 (step_li p g A n c rd out st inp v w hc hm hp hv hst hd hde ha hb hcb)
            · rw [show xop code inp ⟨(p : Int), g, mem, rd, out, st + 1, 0⟩ 2 a b cc = ⟨(p : Int) + 1, gset g a (g a % 65536 + cc * 65536), mem, rd, out, st + 1, 0⟩ from by simp [xop]; rfl]
              exact step_fin (y := ⟨(p : Int) + 1, gset g a (g a % 65536 + cc * 65536), mem, rd, out, st + 1, 0⟩) hR hn1 hn2 (step_lui p g A n c rd out st inp v w hc hm hp hv hst hd hde ha hb hcb (hg a))
            · rw [show xop code inp ⟨(p : Int), g, mem, rd, out, st + 1, 0⟩ 3 a b cc = ⟨(p : Int) + 1, gset g a (g b), mem, rd, out, st + 1, 0⟩ from by simp [xop]; rfl]
              exact step_fin (y := ⟨(p : Int) + 1, gset g a (g b), mem, rd, out, st + 1, 0⟩) hR hn1 hn2 (step_mov p g A n c rd out st inp v w hc hm hp hv hst hd hde ha hb hcb)
            · omega
            · omega
            · omega
            · omega
            · omega
            · omega
            · omega
            · omega
            · omega
            · omega
            · omega
            · omega
            · by_cases hh : whs mem (g b) cc = true
              · rw [show xop code inp ⟨(p : Int), g, mem, rd, out, st + 1, 0⟩ 16 a b cc = ⟨(p : Int) + 1, gset g a (wof mem (g b) cc), mem, rd, out, st + 1, 0⟩ from by simp [xop, hh]; rfl]
                exact step_fin (y := ⟨(p : Int) + 1, gset g a (wof mem (g b) cc), mem, rd, out, st + 1, 0⟩) hR hn1 hn2 (step_ld_yes p g A n c rd out st inp v w hc hm hp hv hst hd hde ha hb hcb (hg b) hR hn hh)
              · rw [show xop code inp ⟨(p : Int), g, mem, rd, out, st + 1, 0⟩ 16 a b cc = ⟨(p : Int), g, mem, rd, out, st + 1, 8⟩ from by simp [xop, hh]; rfl]
                exact step_fin (y := ⟨(p : Int), g, mem, rd, out, st + 1, 8⟩) hR hn1 hn2 (step_ld_no p g A n c rd out st inp v w hc hm hp hv hst hd hde ha hb hcb (hg b) hR hn (by simpa using hh))
            · by_cases hh : whs mem (g b) cc = true
              · rw [show xop code inp ⟨(p : Int), g, mem, rd, out, st + 1, 0⟩ 17 a b cc = ⟨(p : Int) + 1, g, mem.set (wat (g b) cc).toNat (g a), rd, out, st + 1, 0⟩ from by simp [xop, hh]]
                refine (step_st_yes p g A n c rd out st inp v w hc hm hp hv hst hd hde ha hb hcb (hg b) (hg a) hR hn (rd_w32 hR) hh).mono ?_
                rintro e w' ⟨q, cap, hq, rfl, hrd, h1, h2, hbe⟩
                exact ⟨_, rfl, ⟨_, _, rfl, hrd, h1, h2, frs_new hq⟩, hbe⟩
              · rw [show xop code inp ⟨(p : Int), g, mem, rd, out, st + 1, 0⟩ 17 a b cc = ⟨(p : Int), g, mem, rd, out, st + 1, 8⟩ from by simp [xop, hh]; rfl]
                exact step_fin (y := ⟨(p : Int), g, mem, rd, out, st + 1, 8⟩) hR hn1 hn2 (step_st_no p g A n c rd out st inp v w hc hm hp hv hst hd hde ha hb hcb (hg b) (hg a) hR hn (by simpa using hh))
            · rw [show xop code inp ⟨(p : Int), g, mem, rd, out, st + 1, 0⟩ 18 a b cc = ⟨cc, g, mem, rd, out, st + 1, 0⟩ from by simp [xop]; rfl]
              exact step_fin (y := ⟨cc, g, mem, rd, out, st + 1, 0⟩) hR hn1 hn2 (step_jmp p g A n c rd out st inp v w hc hm hp hv hst hd hde ha hb hcb)
            · by_cases hh : g a = 0
              · rw [show xop code inp ⟨(p : Int), g, mem, rd, out, st + 1, 0⟩ 19 a b cc = ⟨cc, g, mem, rd, out, st + 1, 0⟩ from by simp [xop, hh]; rfl]
                exact step_fin (y := ⟨cc, g, mem, rd, out, st + 1, 0⟩) hR hn1 hn2 (step_jz_yes p g A n c rd out st inp v w hc hm hp hv hst hd hde ha hb hcb hh)
              · rw [show xop code inp ⟨(p : Int), g, mem, rd, out, st + 1, 0⟩ 19 a b cc = ⟨(p : Int) + 1, g, mem, rd, out, st + 1, 0⟩ from by simp [xop, hh]; rfl]
                exact step_fin (y := ⟨(p : Int) + 1, g, mem, rd, out, st + 1, 0⟩) hR hn1 hn2 (step_jz_no p g A n c rd out st inp v w hc hm hp hv hst hd hde ha hb hcb hh)
            · by_cases hh : g a = 0
              · rw [show xop code inp ⟨(p : Int), g, mem, rd, out, st + 1, 0⟩ 20 a b cc = ⟨(p : Int) + 1, g, mem, rd, out, st + 1, 0⟩ from by simp [xop, hh]; rfl]
                exact step_fin (y := ⟨(p : Int) + 1, g, mem, rd, out, st + 1, 0⟩) hR hn1 hn2 (step_jnz_no p g A n c rd out st inp v w hc hm hp hv hst hd hde ha hb hcb hh)
              · rw [show xop code inp ⟨(p : Int), g, mem, rd, out, st + 1, 0⟩ 20 a b cc = ⟨cc, g, mem, rd, out, st + 1, 0⟩ from by simp [xop, hh]; rfl]
                exact step_fin (y := ⟨cc, g, mem, rd, out, st + 1, 0⟩) hR hn1 hn2 (step_jnz_yes p g A n c rd out st inp v w hc hm hp hv hst hd hde ha hb hcb hh)
            · rw [show xop code inp ⟨(p : Int), g, mem, rd, out, st + 1, 0⟩ 21 a b cc = ⟨cc, gset g a (((p : Int) + 1) % 4294967296), mem, rd, out, st + 1, 0⟩ from by simp [xop]; rfl]
              exact step_fin (y := ⟨cc, gset g a (((p : Int) + 1) % 4294967296), mem, rd, out, st + 1, 0⟩) hR hn1 hn2 (step_call p g A n c rd out st inp v w hc hm hp hv hst hd hde ha hb hcb)
            · rw [show xop code inp ⟨(p : Int), g, mem, rd, out, st + 1, 0⟩ 22 a b cc = ⟨g a, g, mem, rd, out, st + 1, 0⟩ from by simp [xop]; rfl]
              exact step_fin (y := ⟨g a, g, mem, rd, out, st + 1, 0⟩) hR hn1 hn2 (step_ret p g A n c rd out st inp v w hc hm hp hv hst hd hde ha hb hcb (hg a))
            · by_cases hh : 0 ≤ rd ∧ rd < (inp.size : Int)
              · obtain ⟨r, rfl⟩ : ∃ r : Nat, rd = (r : Int) := ⟨rd.toNat, by omega⟩
                have hr2 : r < inp.size := by omega
                rw [show xop code inp ⟨(p : Int), g, mem, (r : Int), out, st + 1, 0⟩ 23 a b cc = ⟨(p : Int) + 1, gset g a (inp[r].toNat : Int), mem, (r : Int) + 1, out, st + 1, 0⟩ from by
                  have e : (inp.data.toList.map fun u => (u.toNat : Int)).getD r 0 = (inp[r].toNat : Int) := by
                    simp [List.getD, hr2]; rfl
                  unfold xop
                  simp only [show ¬ ((4 : Int) ≤ 23 ∧ (23 : Int) ≤ 15) from by omega, if_false, show ¬ (23 : Int) = 1 from by omega, show ¬ (23 : Int) = 2 from by omega, show ¬ (23 : Int) = 3 from by omega, show ¬ (23 : Int) = 16 from by omega, show ¬ (23 : Int) = 17 from by omega, show ¬ (23 : Int) = 18 from by omega, show ¬ (23 : Int) = 19 from by omega, show ¬ (23 : Int) = 20 from by omega, show ¬ (23 : Int) = 21 from by omega, show ¬ (23 : Int) = 22 from by omega, if_true, hh, and_self, Int.toNat_natCast, e, Mst.setr]]
                exact step_fin (y := ⟨(p : Int) + 1, gset g a (inp[r].toNat : Int), mem, (r : Int) + 1, out, st + 1, 0⟩) hR hn1 hn2 (step_get_yes p g A n c (r : Int) out st inp v w hc hm hp hv hst hd hde ha hb hcb r _ hin hr2 rfl rfl)
              · rw [show xop code inp ⟨(p : Int), g, mem, rd, out, st + 1, 0⟩ 23 a b cc = ⟨(p : Int) + 1, gset g a 256, mem, rd, out, st + 1, 0⟩ from by simp [xop, hh]; rfl]
                exact step_fin (y := ⟨(p : Int) + 1, gset g a 256, mem, rd, out, st + 1, 0⟩) hR hn1 hn2 (step_get_no p g A n c rd out st inp v w hc hm hp hv hst hd hde ha hb hcb hh)
            · by_cases hh : out.size < 65536
              · rw [show xop code inp ⟨(p : Int), g, mem, rd, out, st + 1, 0⟩ 24 a b cc = ⟨(p : Int) + 1, g, mem, rd, out ++ ⟨#[byt (g a)]⟩, st + 1, 0⟩ from by simp [xop, hh]]
                exact step_fin (y := ⟨(p : Int) + 1, g, mem, rd, out ++ ⟨#[byt (g a)]⟩, st + 1, 0⟩) hR hn1 hn2 (step_put_yes p g A n c rd out st inp v w hc hm hp hv hst hd hde ha hb hcb hh (hg a))
              · rw [show xop code inp ⟨(p : Int), g, mem, rd, out, st + 1, 0⟩ 24 a b cc = ⟨(p : Int), g, mem, rd, out, st + 1, 4⟩ from by simp [xop, hh]; rfl]
                exact step_fin (y := ⟨(p : Int), g, mem, rd, out, st + 1, 4⟩) hR hn1 hn2 (step_put_no p g A n c rd out st inp v w hc hm hp hv hst hd hde ha hb hcb (by omega))
            · by_cases hh : g a < cc
              · rw [show xop code inp ⟨(p : Int), g, mem, rd, out, st + 1, 0⟩ 25 a b cc = ⟨(p : Int) + 1, g, mem, rd, out, st + 1, 0⟩ from by simp [xop, hh]; rfl]
                exact step_fin (y := ⟨(p : Int) + 1, g, mem, rd, out, st + 1, 0⟩) hR hn1 hn2 (step_chk_yes p g A n c rd out st inp v w hc hm hp hv hst hd hde ha hb hcb hh)
              · rw [show xop code inp ⟨(p : Int), g, mem, rd, out, st + 1, 0⟩ 25 a b cc = ⟨(p : Int), g, mem, rd, out, st + 1, 3⟩ from by simp [xop, hh]; rfl]
                exact step_fin (y := ⟨(p : Int), g, mem, rd, out, st + 1, 3⟩) hR hn1 hn2 (step_chk_no p g A n c rd out st inp v w hc hm hp hv hst hd hde ha hb hcb hh)
            · rw [show xop code inp ⟨(p : Int), g, mem, rd, out, st + 1, 0⟩ 26 a b cc = ⟨(p : Int), g, mem, rd, out, st + 1, 1⟩ from by simp [xop]; rfl]
              exact step_fin (y := ⟨(p : Int), g, mem, rd, out, st + 1, 1⟩) hR hn1 hn2 (step_halt p g A n c rd out st inp v w hc hm hp hv hst hd hde ha hb hcb)
            · by_cases hh : whs code (g b) cc = true
              · rw [show xop code inp ⟨(p : Int), g, mem, rd, out, st + 1, 0⟩ 27 a b cc = ⟨(p : Int) + 1, gset g a (wof code (g b) cc), mem, rd, out, st + 1, 0⟩ from by simp [xop, hh]; rfl]
                exact step_fin (y := ⟨(p : Int) + 1, gset g a (wof code (g b) cc), mem, rd, out, st + 1, 0⟩) hR hn1 hn2 (step_ldc_yes p g A n c rd out st inp v w hc hm hp hv hst hd hde ha hb hcb (hg b) hh)
              · rw [show xop code inp ⟨(p : Int), g, mem, rd, out, st + 1, 0⟩ 27 a b cc = ⟨(p : Int), g, mem, rd, out, st + 1, 8⟩ from by simp [xop, hh]; rfl]
                exact step_fin (y := ⟨(p : Int), g, mem, rd, out, st + 1, 8⟩) hR hn1 hn2 (step_ldc_no p g A n c rd out st inp v w hc hm hp hv hst hd hde ha hb hcb (hg b) (by simpa using hh))
  · rw [nxt_end he]
    exact step_fin (y := ⟨pc, g, mem, rd, out, st, en⟩) hR hn1 hn2 (step_end pc g A n c rd out st en (code := code) inp w he)
end Go.Proofs.YtgojpflkhnaedaaDoor
