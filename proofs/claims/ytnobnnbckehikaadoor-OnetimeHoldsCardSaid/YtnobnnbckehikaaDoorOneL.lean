/- Whether values hold by a key: the contracts of onetime's Check and of the reference's. -/
import Derived.Test.YtnobnnbckehikaaDoorOneK
import Derived.Test.YtnobnnbckehikaaDoorEq
set_option linter.unusedVariables false
namespace Go.Proofs.YtnobnnbckehikaaDoor
open Go.RowKit

set_option maxRecDepth 100000 in
set_option maxHeartbeats 2000000 in
theorem check5_no {A : Option Addr} {n cap : Nat} (pub msg : Ws) (w : World) (hp : Ok4 pub) (hm : Ok4 msg) (hn : n ≠ 35) (hn' : n ≤ 9223372036854775807) :
    Calls Tryd.prog 20 #[ag pub, ag msg, .slice A n cap] w fun e w' => e = .returned (.bool false) ∧ Below w.heap.size w w' := by
  have c := fun w => reach_no (A := A) (n := n) (cap := cap) msg w hm hn hn'
  obtain ⟨x0, x1, x2, x3, ex, _⟩ := ok4 hp
  obtain ⟨y0, y1, y2, y3, ey, _⟩ := ok4 hm
  rw [ey, ag4] at c
  rw [ex, ey, ag4, ag4]
  have C := Lib.hid c
  have HK := Lib.hid (((Kx.nil none w).more (.cells #[.int .u32 x0, .int .u32 x1, .int .u32 x2, .int .u32 x3] 24 (0, 0))).add (w.heap.size + 1) (by simp) (.cells #[.int .u32 y0, .int .u32 y1, .int .u32 y2, .int .u32 y3] 24 (0, 0)))
  clear c ex ey hp hm
  go_enter Tryd.func20, Tryd.ntmps20
  go_wp2_with fail
  refine (C.out _).mono ?_
  rintro e w1 ⟨rfl, hb⟩
  replace HK := Lib.hid (HK.out.after hb)
  clear hb
  go_wp2_with fail
  go_ret
  exact ⟨rfl, (HK.out.more _).be.plain⟩
set_option maxRecDepth 100000 in
set_option maxHeartbeats 2000000 in
theorem check5_row {b off cap : Nat} {l : Dl} (pub msg : Ws) (w : World) (hp : Ok4 pub) (hm : Ok4 msg) (hl : l.length = 35) (hc : 35 ≤ cap) (hr : DRow w b off l) (ht : Tabs w) :
    Calls Tryd.prog 20 #[ag pub, ag msg, .slice (some ⟨b, off, none⟩) 35 cap] w fun e w' => e = .returned (.bool (same (rch msg l) pub)) ∧ Below w.heap.size w w' := by
  have o := rch_ok (msg := msg) hr.ok hl
  have c := fun w hr ht => reach_row (b := b) (off := off) (cap := cap) (l := l) msg w hm hl hc hr ht
  obtain ⟨r0, r1, r2, r3, er, _⟩ := ok4 o
  obtain ⟨x0, x1, x2, x3, ex, _⟩ := ok4 hp
  obtain ⟨y0, y1, y2, y3, ey, _⟩ := ok4 hm
  rw [er, ag4] at c
  rw [er]
  rw [show ag msg = .agg #[.int .u32 y0, .int .u32 y1, .int .u32 y2, .int .u32 y3] by rw [ey, ag4]] at c ⊢
  rw [ex, ag4]
  have C := Lib.hid c
  have HR := Lib.hid hr
  have HT := Lib.hid ht
  have q4 := eq4s
  have HK := Lib.hid (((Kx.nil none w).more (.cells #[.int .u32 x0, .int .u32 x1, .int .u32 x2, .int .u32 x3] 24 (0, 0))).add (w.heap.size + 1) (by simp) (.cells #[.int .u32 y0, .int .u32 y1, .int .u32 y2, .int .u32 y3] 24 (0, 0)))
  clear c ex ey er o hp hm hr hl ht
  go_enter Tryd.func20, Tryd.ntmps20
  go_wp2_with fail
  refine (C.out _ (HR.out.oldn HK.out) (HT.out.oldn HK.out)).mono ?_
  rintro e w1 ⟨rfl, hb⟩
  replace HK := Lib.hid (HK.out.after hb)
  replace HK := Lib.hid (HK.out.more (.cells #[.int .u32 r0, .int .u32 r1, .int .u32 r2, .int .u32 r3] 24 (0, 0)))
  clear hb
  obtain ⟨a0, a1, a2, a3, _⟩ := cells4 (HK.out.at 0 rfl)
  obtain ⟨m0, m1, m2, m3, _⟩ := cells4 (HK.out.at 2 rfl)
  go_wp2_with fail
  go_ret
  exact ⟨rfl, HK.out.be.plain⟩
set_option maxRecDepth 100000 in
set_option maxHeartbeats 2000000 in
theorem checkr5_no {A : Option Addr} {n cap : Nat} (pub msg : Ws) (w : World) (hp : Ok4 pub) (hm : Ok4 msg) (hn : n ≠ 35) (hn' : n ≤ 9223372036854775807) :
    Calls Tryd.prog 22 #[ag pub, ag msg, .slice A n cap] w fun e w' => e = .returned (.bool false) ∧ Below w.heap.size w w' := by
  have c := fun w => reachr_no (A := A) (n := n) (cap := cap) msg w hm hn hn'
  obtain ⟨x0, x1, x2, x3, ex, _⟩ := ok4 hp
  obtain ⟨y0, y1, y2, y3, ey, _⟩ := ok4 hm
  rw [ey, ag4] at c
  rw [ex, ey, ag4, ag4]
  have C := Lib.hid c
  have HK := Lib.hid (((Kx.nil none w).more (.cells #[.int .u32 x0, .int .u32 x1, .int .u32 x2, .int .u32 x3] 24 (0, 0))).add (w.heap.size + 1) (by simp) (.cells #[.int .u32 y0, .int .u32 y1, .int .u32 y2, .int .u32 y3] 24 (0, 0)))
  clear c ex ey hp hm
  go_enter Tryd.func22, Tryd.ntmps22
  go_wp2_with fail
  refine (C.out _).mono ?_
  rintro e w1 ⟨rfl, hb⟩
  replace HK := Lib.hid (HK.out.after hb)
  clear hb
  go_wp2_with fail
  go_ret
  exact ⟨rfl, (HK.out.more _).be.plain⟩
set_option maxRecDepth 100000 in
set_option maxHeartbeats 2000000 in
theorem checkr5_row {b off cap : Nat} {l : Dl} (pub msg : Ws) (w : World) (hp : Ok4 pub) (hm : Ok4 msg) (hl : l.length = 35) (hc : 35 ≤ cap) (hr : DRow w b off l) :
    Calls Tryd.prog 22 #[ag pub, ag msg, .slice (some ⟨b, off, none⟩) 35 cap] w fun e w' => e = .returned (.bool (same (rch msg l) pub)) ∧ Below w.heap.size w w' := by
  have o := rch_ok (msg := msg) hr.ok hl
  have c := fun w hr => reachr_row (b := b) (off := off) (cap := cap) (l := l) msg w hm hl hc hr
  obtain ⟨r0, r1, r2, r3, er, _⟩ := ok4 o
  obtain ⟨x0, x1, x2, x3, ex, _⟩ := ok4 hp
  obtain ⟨y0, y1, y2, y3, ey, _⟩ := ok4 hm
  rw [er, ag4] at c
  rw [er]
  rw [show ag msg = .agg #[.int .u32 y0, .int .u32 y1, .int .u32 y2, .int .u32 y3] by rw [ey, ag4]] at c ⊢
  rw [ex, ag4]
  have C := Lib.hid c
  have HR := Lib.hid hr
  have q4 := eq4s
  have HK := Lib.hid (((Kx.nil none w).more (.cells #[.int .u32 x0, .int .u32 x1, .int .u32 x2, .int .u32 x3] 24 (0, 0))).add (w.heap.size + 1) (by simp) (.cells #[.int .u32 y0, .int .u32 y1, .int .u32 y2, .int .u32 y3] 24 (0, 0)))
  clear c ex ey er o hp hm hr hl
  go_enter Tryd.func22, Tryd.ntmps22
  go_wp2_with fail
  refine (C.out _ (HR.out.oldn HK.out)).mono ?_
  rintro e w1 ⟨rfl, hb⟩
  replace HK := Lib.hid (HK.out.after hb)
  replace HK := Lib.hid (HK.out.more (.cells #[.int .u32 r0, .int .u32 r1, .int .u32 r2, .int .u32 r3] 24 (0, 0)))
  clear hb
  obtain ⟨a0, a1, a2, a3, _⟩ := cells4 (HK.out.at 0 rfl)
  obtain ⟨m0, m1, m2, m3, _⟩ := cells4 (HK.out.at 2 rfl)
  go_wp2_with fail
  go_ret
  exact ⟨rfl, HK.out.be.plain⟩
end Go.Proofs.YtnobnnbckehikaaDoor
