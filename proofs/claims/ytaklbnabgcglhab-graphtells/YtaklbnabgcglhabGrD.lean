/- The contracts of graph.Needs and graph.Users. -/
import Derived.Test.YtaklbnabgcglhabGrC
namespace Go.Proofs.Ytaklbnabgcglhab
open Go.RowKit Go.PlainAid

set_option maxRecDepth 100000

set_option maxHeartbeats 2000000 in
theorem needs1_any (x y : PV) (w : World) (hx : PlcAt w.heap.size w x) (hy : PlcAt w.heap.size w y) :
    Calls Try.prog 59 #[x.modV, y.modV] w fun e w' => e = .returned (.bool (nxNeed x.mod y.mod)) ∧ Below w.heap.size w w' := by
  have HA : Hid (∀ W, Below w.heap.size w W → Calls Try.prog 60 #[x.modV, .string y.mod.name] W fun e w' => e = .returned (.bool (nxNeed x.mod y.mod)) ∧ Below W.heap.size W w') := fun W hb => asks_any x.mod x.modV y.mod.name W (((hx.below hb).more hb.size).isMod)
  obtain ⟨⟨pe, ke, e4, _⟩, ⟨pi, ki, e5, _⟩, ⟨pp, kp, e6, _⟩⟩ := hx
  obtain ⟨⟨ye, je, f4, _⟩, ⟨yi, ji, f5, _⟩, ⟨yp, jp, f6, _⟩⟩ := hy
  generalize nxNeed x.mod y.mod = t at *
  obtain ⟨⟨N, ma, mi, T, es, is, ps⟩, ve, vi, vp, fi⟩ := x
  obtain ⟨⟨N', ma', mi', T', es', is', ps'⟩, ve', vi', vp', fi'⟩ := y
  dsimp only at e4 e5 e6 f4 f5 f6
  subst e4 e5 e6 f4 f5 f6
  dsimp only [PV.modV] at *
  generalize es.length = le at *
  generalize is.length = li at *
  generalize ps.length = lp at *
  generalize es'.length = le' at *
  generalize is'.length = li' at *
  generalize ps'.length = lp' at *
  have HB : Hid (Below w.heap.size w ((w.alloc (.cells #[.string N, .int .i64 ma, .int .i64 mi, .string T, .slice pe le ke, .slice pi li ki, .slice pp lp kp] 44)).alloc (.cells #[.string N', .int .i64 ma', .int .i64 mi', .string T', .slice ye le' je, .slice yi li' ji, .slice yp lp' jp] 44))) := ((Below.refl _ _).alloc (Nat.le_refl _) _).alloc (by simp) _
  go_enter Try.func59, Try.ntmps59
  go_wp2_with fail
  refine (HA.out _ HB.out).mono ?_
  rintro e w2 ⟨rfl, b2⟩
  have B2 := HB.out.trans (b2.mono HB.out.size)
  clear HA HB b2
  go_wp2
  go_ret
  exact ⟨rfl, B2⟩

set_option maxHeartbeats 2000000 in
theorem users1_any (x y : PV) (w : World) (hx : PlcAt w.heap.size w x) (hy : PlcAt w.heap.size w y) :
    Calls Try.prog 61 #[x.modV, y.modV] w fun e w' => e = .returned (.bool (nxUse x.mod y.mod)) ∧ Below w.heap.size w w' := by
  have HA : Hid (∀ W, Below w.heap.size w W → Calls Try.prog 60 #[y.modV, .string x.mod.name] W fun e w' => e = .returned (.bool (nxUse x.mod y.mod)) ∧ Below W.heap.size W w') := fun W hb => asks_any y.mod y.modV x.mod.name W (((hy.below hb).more hb.size).isMod)
  obtain ⟨⟨pe, ke, e4, _⟩, ⟨pi, ki, e5, _⟩, ⟨pp, kp, e6, _⟩⟩ := hx
  obtain ⟨⟨ye, je, f4, _⟩, ⟨yi, ji, f5, _⟩, ⟨yp, jp, f6, _⟩⟩ := hy
  generalize nxUse x.mod y.mod = t at *
  obtain ⟨⟨N, ma, mi, T, es, is, ps⟩, ve, vi, vp, fi⟩ := x
  obtain ⟨⟨N', ma', mi', T', es', is', ps'⟩, ve', vi', vp', fi'⟩ := y
  dsimp only at e4 e5 e6 f4 f5 f6
  subst e4 e5 e6 f4 f5 f6
  dsimp only [PV.modV] at *
  generalize es.length = le at *
  generalize is.length = li at *
  generalize ps.length = lp at *
  generalize es'.length = le' at *
  generalize is'.length = li' at *
  generalize ps'.length = lp' at *
  have HB : Hid (Below w.heap.size w ((w.alloc (.cells #[.string N, .int .i64 ma, .int .i64 mi, .string T, .slice pe le ke, .slice pi li ki, .slice pp lp kp] 44)).alloc (.cells #[.string N', .int .i64 ma', .int .i64 mi', .string T', .slice ye le' je, .slice yi li' ji, .slice yp lp' jp] 44))) := ((Below.refl _ _).alloc (Nat.le_refl _) _).alloc (by simp) _
  go_enter Try.func61, Try.ntmps61
  go_wp2_with fail
  refine (HA.out _ HB.out).mono ?_
  rintro e w2 ⟨rfl, b2⟩
  have B2 := HB.out.trans (b2.mono HB.out.size)
  clear HA HB b2
  go_wp2
  go_ret
  exact ⟨rfl, B2⟩

set_option maxHeartbeats 1000000 in
theorem needs_any (l : List PV) (v : Value) (name : ByteArray) (w : World) (hrow : IsPlcs w.heap.size w v l) (hfit : ∀ x ∈ l, x.mod.fits) :
    Calls Try.prog 27 #[v, .string name] w fun e w' => (∃ r ss, e = .returned (.tuple #[r, .int .i64 (comeErr (l.map PV.plc) name)]) ∧ RowOf 1 strCell w'.heap.size w' r ss ∧ ComeRes nxNeed (l.map PV.plc) name ss) ∧ Below w.heap.size w w' := by
  have HC := comeTo_any nxNeed 59 (fun w x y => enters_of Try.func59 (by kernel_rfl) rfl _ w) l v name w hrow hfit (fun x hx y hy W hb => needs1_any x y W (((hrow.2 x hx).below hb).more hb.size) (((hrow.2 y hy).below hb).more hb.size))
  obtain ⟨⟨a, cap, rfl, _, _⟩, _⟩ := hrow
  generalize comeErr (l.map PV.plc) name = R at *
  generalize ComeRes nxNeed (l.map PV.plc) name = CR at *
  generalize l.length = ll at *
  go_enter Try.func27, Try.ntmps27
  go_wp2_with fail
  refine HC.mono ?_
  rintro e w2 ⟨⟨r, ss, rfl, hr, hs⟩, b2⟩
  have HR : Hid (RowOf 1 strCell w2.heap.size w2 r ss ∧ CR ss) := ⟨hr, hs⟩
  clear HC hr hs
  go_wp2
  go_ret2
  exact ⟨⟨r, ss, rfl, HR.out.1, HR.out.2⟩, b2⟩

set_option maxHeartbeats 1000000 in
theorem users_any (l : List PV) (v : Value) (name : ByteArray) (w : World) (hrow : IsPlcs w.heap.size w v l) (hfit : ∀ x ∈ l, x.mod.fits) :
    Calls Try.prog 28 #[v, .string name] w fun e w' => (∃ r ss, e = .returned (.tuple #[r, .int .i64 (comeErr (l.map PV.plc) name)]) ∧ RowOf 1 strCell w'.heap.size w' r ss ∧ ComeRes nxUse (l.map PV.plc) name ss) ∧ Below w.heap.size w w' := by
  have HC := comeTo_any nxUse 61 (fun w x y => enters_of Try.func61 (by kernel_rfl) rfl _ w) l v name w hrow hfit (fun x hx y hy W hb => users1_any x y W (((hrow.2 x hx).below hb).more hb.size) (((hrow.2 y hy).below hb).more hb.size))
  obtain ⟨⟨a, cap, rfl, _, _⟩, _⟩ := hrow
  generalize comeErr (l.map PV.plc) name = R at *
  generalize ComeRes nxUse (l.map PV.plc) name = CR at *
  generalize l.length = ll at *
  go_enter Try.func28, Try.ntmps28
  go_wp2_with fail
  refine HC.mono ?_
  rintro e w2 ⟨⟨r, ss, rfl, hr, hs⟩, b2⟩
  have HR : Hid (RowOf 1 strCell w2.heap.size w2 r ss ∧ CR ss) := ⟨hr, hs⟩
  clear HC hr hs
  go_wp2
  go_ret2
  exact ⟨⟨r, ss, rfl, HR.out.1, HR.out.2⟩, b2⟩

end Go.Proofs.Ytaklbnabgcglhab
