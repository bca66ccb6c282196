/- Layer 9 (machine), the program's code: do, whatever the instruction. -/
import Derived.Test.YtgojpflkhnaedaaDoorMcsD
import Derived.Test.YtgojpflkhnaedaaDoorMcsE
import Derived.Test.YtgojpflkhnaedaaDoorMcsG
import Derived.Test.YtgojpflkhnaedaaDoorMchN
set_option linter.unusedVariables false
namespace Go.Proofs.YtgojpflkhnaedaaDoor
open Go.RowKit

/-- What do gives: a state, and its end: what the instruction does, or the state as it was, at that end. -/
def DoV (w : World) (A : Option Addr) (w' : World) (n : Nat) (v : Value) (f : Int) (x X : Mst) : Prop := ∃ y, StV w A w' n v y ∧ ((f = 0 ∧ X = y) ∨ (¬ f = 0 ∧ X = x.ended f))
theorem do_fin {f : Nat} {args : Array Value} {w : World} {y x X : Mst} {A : Option Addr} {n c : Nat} {i : Int} (hR : Rd w A n y.mem) (h1 : n ≤ c) (h2 : c ≤ maxLen) (hX : (i = 0 ∧ X = y) ∨ (¬ i = 0 ∧ X = x.ended i))
    (h : Calls Tryd.prog f args w fun e w' => e = .returned (.tuple #[.agg (stc y.pc y.g (.slice A n c) y.rd y.out y.st y.en), .int .i64 i]) ∧ Below w.heap.size w w') :
    Calls Tryd.prog f args w fun e w' => ∃ v i, e = .returned (.tuple #[v, .int .i64 i]) ∧ DoV w A w' n v i x X ∧ Below w.heap.size w w' := by
  refine h.mono ?_
  rintro e w' ⟨rfl, hb⟩
  exact ⟨_, i, rfl, ⟨y, ⟨A, c, rfl, hR.below hb, h1, h2, .inl rfl⟩, hX⟩, hb⟩
set_option maxRecDepth 100000 in
set_option maxHeartbeats 4000000 in
theorem do9 {A B : Option Addr} {n c m k : Nat} {code : List Int} {d : Int} (inp : ByteArray) (pc : Int) (g : Nat → Int) (mem : List Int) (rd : Int) (out : ByteArray) (st : Int) {o cc : Int} {a b : Nat} (w : World) (hc : Rd w B m code) (hm : m ≤ 1073741824) (hR : Rd w A n mem) (hn : n ≤ 1073741824) (hn1 : n ≤ c) (hn2 : c ≤ maxLen)
    (hg : Wg g) (hin : inp.size ≤ 1073741824) (hp : 0 ≤ pc ∧ pc ≤ 4611686018427387904) (hr : rgt o a b cc = true) :
    Calls Tryd.prog 23 #[.agg #[.slice B m k, .int .i64 d], .string inp, .agg (stc pc g (.slice A n c) rd out st 0), .agg #[.int .i64 o, .int .i64 (a : Int), .int .i64 (b : Int), .int .i64 cc]] w fun e w' => ∃ v i, e = .returned (.tuple #[v, .int .i64 i]) ∧ DoV w A w' n v i ⟨pc, g, mem, rd, out, st, 0⟩ (xop code inp ⟨pc, g, mem, rd, out, st, 0⟩ o a b cc) ∧ Below w.heap.size w w' := by
  have hbd := rgt_bounds hr
  have ha : a < 16 := by omega
  have hb : b < 16 := by omega
  have hcb : 0 ≤ cc ∧ cc ≤ 65535 := hbd.2.2.2
  have hp2 : -4611686018427387904 ≤ pc ∧ pc ≤ 4611686018427387904 := by omega
  have hcl := hc.1
  by_cases ht : 4 ≤ o ∧ o ≤ 15
  · obtain ⟨r, rfl⟩ : ∃ r : Nat, cc = (r : Int) := ⟨cc.toNat, by omega⟩
    have hr16 : r < 16 := by
      have := rgt_mst hr
      rw [mst_two ht] at this
      omega
    refine do_fin (y := ⟨pc + 1, gset g a (ap o (g b) (g r)), mem, rd, out, st, 0⟩) (i := if er o (g r) = 0 then 0 else 2) hR hn1 hn2 ?_ (do9_ap pc g A n c rd out st 0 inp _ w ha hb hp2 ht hr16 (hg b) (hg r) rfl)
    by_cases hz : er o (g r) = 0
    · refine .inl ⟨by rw [if_pos hz], ?_⟩
      unfold xop
      rw [if_pos ht, Int.toNat_natCast]
      show (if er o (g r) = 0 then _ else _) = _
      rw [if_pos hz]; rfl
    · refine .inr ⟨by rw [if_neg hz]; decide, ?_⟩
      unfold xop
      rw [if_pos ht, Int.toNat_natCast]
      show (if er o (g r) = 0 then _ else _) = _
      rw [if_neg hz, if_neg hz]
  · rcases op_cases hbd.1 with rfl | rfl | rfl | rfl | rfl | rfl | rfl | rfl | rfl | rfl | rfl | rfl | rfl | rfl | rfl | rfl | rfl | rfl | rfl | rfl | rfl | rfl | rfl | rfl | rfl | rfl | rfl
    · exact do_fin (y := ⟨pc + 1, gset g a cc, mem, rd, out, st, 0⟩) hR hn1 hn2 (.inl ⟨rfl, by simp [xop] <;> rfl⟩) (do9_li pc g A n c rd out st 0 inp  w ha hb hcb hp2 )
    · exact do_fin (y := ⟨pc + 1, gset g a (g a % 65536 + cc * 65536), mem, rd, out, st, 0⟩) hR hn1 hn2 (.inl ⟨rfl, by simp [xop] <;> rfl⟩) (do9_lui pc g A n c rd out st 0 inp  w ha hb hcb hp2 (hg a))
    · exact do_fin (y := ⟨pc + 1, gset g a (g b), mem, rd, out, st, 0⟩) hR hn1 hn2 (.inl ⟨rfl, by simp [xop] <;> rfl⟩) (do9_mov pc g A n c rd out st 0 inp  w ha hb hcb hp2 )
    · omega
    · omega
    · omega
    · omega
    · omega
    · omega
    · omega
    · omega
    · omega
    · omega
    · omega
    · omega
    · by_cases hh : whs mem (g b) cc = true
      · exact do_fin (y := ⟨pc + 1, gset g a (wof mem (g b) cc), mem, rd, out, st, 0⟩) hR hn1 hn2 (.inl ⟨rfl, by simp [xop, hh] <;> rfl⟩) (do9_ld_yes pc g A n c rd out st 0 inp  w ha hb hcb hp2 (hg b) hR hn hh)
      · exact do_fin (y := ⟨pc + 1, g, mem, rd, out, st, 0⟩) hR hn1 hn2 (.inr ⟨by decide, by simp [xop, hh] <;> rfl⟩) (do9_ld_no pc g A n c rd out st 0 inp  w ha hb hcb hp2 (hg b) hR hn (by simpa using hh))
    · by_cases hh : whs mem (g b) cc = true
      · refine (do9_st_yes pc g A n c rd out st 0 inp  w ha hb hcb hp2 (hg b) (hg a) hR hn hh).mono ?_
        rintro e w' ⟨q, cap, hq, rfl, hrd, h1, h2, hbe⟩
        exact ⟨_, 0, rfl, ⟨⟨pc + 1, g, mem.set (wat (g b) cc).toNat (g a), rd, out, st, 0⟩, ⟨_, _, rfl, hrd, h1, h2, frs_new hq⟩, .inl ⟨rfl, by simp [xop, hh]⟩⟩, hbe⟩
      · exact do_fin (y := ⟨pc + 1, g, mem, rd, out, st, 0⟩) hR hn1 hn2 (.inr ⟨by decide, by simp [xop, hh] <;> rfl⟩) (do9_st_no pc g A n c rd out st 0 inp  w ha hb hcb hp2 (hg b) (hg a) hR hn (by simpa using hh))
    · exact do_fin (y := ⟨cc, g, mem, rd, out, st, 0⟩) hR hn1 hn2 (.inl ⟨rfl, by simp [xop] <;> rfl⟩) (do9_jmp pc g A n c rd out st 0 inp  w ha hb hcb hp2 )
    · by_cases hh : g a = 0
      · exact do_fin (y := ⟨cc, g, mem, rd, out, st, 0⟩) hR hn1 hn2 (.inl ⟨rfl, by simp [xop, hh] <;> rfl⟩) (do9_jz_z pc g A n c rd out st 0 inp  w ha hb hcb hp2 hh)
      · exact do_fin (y := ⟨pc + 1, g, mem, rd, out, st, 0⟩) hR hn1 hn2 (.inl ⟨rfl, by simp [xop, hh] <;> rfl⟩) (do9_jz_n pc g A n c rd out st 0 inp  w ha hb hcb hp2 hh)
    · by_cases hh : g a = 0
      · exact do_fin (y := ⟨pc + 1, g, mem, rd, out, st, 0⟩) hR hn1 hn2 (.inl ⟨rfl, by simp [xop, hh] <;> rfl⟩) (do9_jnz_z pc g A n c rd out st 0 inp  w ha hb hcb hp2 hh)
      · exact do_fin (y := ⟨cc, g, mem, rd, out, st, 0⟩) hR hn1 hn2 (.inl ⟨rfl, by simp [xop, hh] <;> rfl⟩) (do9_jnz_n pc g A n c rd out st 0 inp  w ha hb hcb hp2 hh)
    · exact do_fin (y := ⟨cc, gset g a ((pc + 1) % 4294967296), mem, rd, out, st, 0⟩) hR hn1 hn2 (.inl ⟨rfl, by simp [xop] <;> rfl⟩) (do9_call pc g A n c rd out st 0 inp _ w ha hb hcb hp2 rfl)
    · exact do_fin (y := ⟨g a, g, mem, rd, out, st, 0⟩) hR hn1 hn2 (.inl ⟨rfl, by simp [xop] <;> rfl⟩) (do9_ret pc g A n c rd out st 0 inp  w ha hb hcb hp2 (hg a))
    · by_cases hh : 0 ≤ rd ∧ rd < (inp.size : Int)
      · obtain ⟨r, rfl⟩ : ∃ r : Nat, rd = (r : Int) := ⟨rd.toNat, by omega⟩
        have hr2 : r < inp.size := by omega
        exact do_fin (y := ⟨pc + 1, gset g a (inp[r].toNat : Int), mem, (r : Int) + 1, out, st, 0⟩) hR hn1 hn2 (.inl ⟨rfl, by
          have e : (inp.data.toList.map fun u => (u.toNat : Int)).getD r 0 = (inp[r].toNat : Int) := by
            simp [List.getD, hr2]; rfl
          unfold xop
          simp only [show ¬ ((4 : Int) ≤ 23 ∧ (23 : Int) ≤ 15) from by omega, if_false, show ¬ (23 : Int) = 1 from by omega, show ¬ (23 : Int) = 2 from by omega, show ¬ (23 : Int) = 3 from by omega, show ¬ (23 : Int) = 16 from by omega, show ¬ (23 : Int) = 17 from by omega, show ¬ (23 : Int) = 18 from by omega, show ¬ (23 : Int) = 19 from by omega, show ¬ (23 : Int) = 20 from by omega, show ¬ (23 : Int) = 21 from by omega, show ¬ (23 : Int) = 22 from by omega, if_true, hh, and_self, Int.toNat_natCast, e, Mst.setr]⟩) (do9_get_yes pc g A n c (r : Int) out st 0 inp r _ w ha hb hcb hp2 hin hr2 rfl rfl)
      · exact do_fin (y := ⟨pc + 1, gset g a 256, mem, rd, out, st, 0⟩) hR hn1 hn2 (.inl ⟨rfl, by simp [xop, hh] <;> rfl⟩) (do9_get_no pc g A n c rd out st 0 inp  w ha hb hcb hp2 hh)
    · by_cases hh : out.size < 65536
      · exact do_fin (y := ⟨pc + 1, g, mem, rd, out ++ ⟨#[byt (g a)]⟩, st, 0⟩) hR hn1 hn2 (.inl ⟨rfl, by simp [xop, hh] <;> rfl⟩) (do9_put_yes pc g A n c rd out st 0 inp  w ha hb hcb hp2 (hg a) hh)
      · exact do_fin (y := ⟨pc + 1, g, mem, rd, out, st, 0⟩) hR hn1 hn2 (.inr ⟨by decide, by simp [xop, hh] <;> rfl⟩) (do9_put_no pc g A n c rd out st 0 inp  w ha hb hcb hp2 (hg a) (by omega))
    · by_cases hh : g a < cc
      · exact do_fin (y := ⟨pc + 1, g, mem, rd, out, st, 0⟩) hR hn1 hn2 (.inl ⟨rfl, by simp [xop, hh] <;> rfl⟩) (do9_chk_yes pc g A n c rd out st 0 inp  w ha hb hcb hp2 hh)
      · exact do_fin (y := ⟨pc + 1, g, mem, rd, out, st, 0⟩) hR hn1 hn2 (.inr ⟨by decide, by simp [xop, hh] <;> rfl⟩) (do9_chk_no pc g A n c rd out st 0 inp  w ha hb hcb hp2 hh)
    · exact do_fin (y := ⟨pc + 1, g, mem, rd, out, st, 0⟩) hR hn1 hn2 (.inr ⟨by decide, by simp [xop] <;> rfl⟩) (do9_halt pc g A n c rd out st 0 inp  w ha hb hcb hp2 )
    · by_cases hh : whs code (g b) cc = true
      · exact do_fin (y := ⟨pc + 1, gset g a (wof code (g b) cc), mem, rd, out, st, 0⟩) hR hn1 hn2 (.inl ⟨rfl, by simp [xop, hh] <;> rfl⟩) (do9_ldc_yes pc g A n c rd out st 0 inp  w ha hb hcb hp2 (hg b) hc hm hh)
      · exact do_fin (y := ⟨pc + 1, g, mem, rd, out, st, 0⟩) hR hn1 hn2 (.inr ⟨by decide, by simp [xop, hh] <;> rfl⟩) (do9_ldc_no pc g A n c rd out st 0 inp  w ha hb hcb hp2 (hg b) hc hm (by simpa using hh))
end Go.Proofs.YtgojpflkhnaedaaDoor
