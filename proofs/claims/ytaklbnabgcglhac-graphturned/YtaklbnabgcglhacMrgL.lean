/- Texts that are laid together. -/
import Derived.Test.YtaklbnabgcglhacMrgK
import Derived.Test.YtaklbnabgcglhacMrgI
import Derived.Laws.EntriesVeiled
import Derived.Test.YtaklbnabgcglhacProg
import Derived.Deep.RegionHeld3
import Derived.Deep.AppendLies

/- The contracts of graph.Needs and graph.Users. -/
namespace Go.Proofs.Ytaklbnabgcglhac
open Go.RowKit Go.PlainAid

set_option maxRecDepth 100000

set_option maxHeartbeats 2000000 in
theorem needs1_any (x y : PV) (w : World) (hx : PlcAt w.heap.size w x) (hy : PlcAt w.heap.size w y) :
    Calls Try.prog 27 #[x.modV, y.modV] w fun e w' => e = .returned (.bool (nxNeed x.mod y.mod)) ∧ Below w.heap.size w w' := by
  have HA : Hid (∀ W, Below w.heap.size w W → Calls Try.prog 28 #[x.modV, .string y.mod.name] W fun e w' => e = .returned (.bool (nxNeed x.mod y.mod)) ∧ Below W.heap.size W w') := fun W hb => asks_any x.mod x.modV y.mod.name W (((hx.below hb).more hb.size).isMod)
  obtain ⟨⟨pe, ke, e4, _⟩, ⟨pi, ki, e5, _⟩, ⟨pp, kp, e6, _⟩⟩ := hx
  obtain ⟨⟨ye, je, f4, _⟩, ⟨yi, ji, f5, _⟩, ⟨yp, jp, f6, _⟩⟩ := hy
  generalize nxNeed x.mod y.mod = t at *
  obtain ⟨⟨N, ma, mi, T, es, is, ps⟩, ve, vi, vp, fi⟩ := x
  obtain ⟨⟨N', ma', mi', T', es', is', ps'⟩, ve', vi', vp', fi'⟩ := y
  dsimp only at e4 e5 e6 f4 f5 f6
  subst e4 e5 e6 f4 f5 f6
  dsimp only [PV.modV] at *
  generalize es.length = le at *
  generalize is.length = li at *
  generalize ps.length = lp at *
  generalize es'.length = le' at *
  generalize is'.length = li' at *
  generalize ps'.length = lp' at *
  have HB : Hid (Below w.heap.size w ((w.alloc (.cells #[.string N, .int .i64 ma, .int .i64 mi, .string T, .slice pe le ke, .slice pi li ki, .slice pp lp kp] 36)).alloc (.cells #[.string N', .int .i64 ma', .int .i64 mi', .string T', .slice ye le' je, .slice yi li' ji, .slice yp lp' jp] 36))) := ((Below.refl _ _).alloc (Nat.le_refl _) _).alloc (by simp) _
  go_enter Try.func27, Try.ntmps27
  go_wp2_with fail
  refine (HA.out _ HB.out).mono ?_
  rintro e w2 ⟨rfl, b2⟩
  have B2 := HB.out.trans (b2.mono HB.out.size)
  clear HA HB b2
  go_wp2
  go_ret
  exact ⟨rfl, B2⟩

set_option maxHeartbeats 2000000 in
theorem users1_any (x y : PV) (w : World) (hx : PlcAt w.heap.size w x) (hy : PlcAt w.heap.size w y) :
    Calls Try.prog 29 #[x.modV, y.modV] w fun e w' => e = .returned (.bool (nxUse x.mod y.mod)) ∧ Below w.heap.size w w' := by
  have HA : Hid (∀ W, Below w.heap.size w W → Calls Try.prog 28 #[y.modV, .string x.mod.name] W fun e w' => e = .returned (.bool (nxUse x.mod y.mod)) ∧ Below W.heap.size W w') := fun W hb => asks_any y.mod y.modV x.mod.name W (((hy.below hb).more hb.size).isMod)
  obtain ⟨⟨pe, ke, e4, _⟩, ⟨pi, ki, e5, _⟩, ⟨pp, kp, e6, _⟩⟩ := hx
  obtain ⟨⟨ye, je, f4, _⟩, ⟨yi, ji, f5, _⟩, ⟨yp, jp, f6, _⟩⟩ := hy
  generalize nxUse x.mod y.mod = t at *
  obtain ⟨⟨N, ma, mi, T, es, is, ps⟩, ve, vi, vp, fi⟩ := x
  obtain ⟨⟨N', ma', mi', T', es', is', ps'⟩, ve', vi', vp', fi'⟩ := y
  dsimp only at e4 e5 e6 f4 f5 f6
  subst e4 e5 e6 f4 f5 f6
  dsimp only [PV.modV] at *
  generalize es.length = le at *
  generalize is.length = li at *
  generalize ps.length = lp at *
  generalize es'.length = le' at *
  generalize is'.length = li' at *
  generalize ps'.length = lp' at *
  have HB : Hid (Below w.heap.size w ((w.alloc (.cells #[.string N, .int .i64 ma, .int .i64 mi, .string T, .slice pe le ke, .slice pi li ki, .slice pp lp kp] 36)).alloc (.cells #[.string N', .int .i64 ma', .int .i64 mi', .string T', .slice ye le' je, .slice yi li' ji, .slice yp lp' jp] 36))) := ((Below.refl _ _).alloc (Nat.le_refl _) _).alloc (by simp) _
  go_enter Try.func29, Try.ntmps29
  go_wp2_with fail
  refine (HA.out _ HB.out).mono ?_
  rintro e w2 ⟨rfl, b2⟩
  have B2 := HB.out.trans (b2.mono HB.out.size)
  clear HA HB b2
  go_wp2
  go_ret
  exact ⟨rfl, B2⟩

set_option maxHeartbeats 1000000 in
theorem needs_any (l : List PV) (v : Value) (name : ByteArray) (w : World) (hrow : IsPlcs w.heap.size w v l) (hfit : ∀ x ∈ l, x.mod.fits) :
    Calls Try.prog 10 #[v, .string name] w fun e w' => (∃ r ss, e = .returned (.tuple #[r, .int .i64 (comeErr (l.map PV.plc) name)]) ∧ RowOf 1 strCell w'.heap.size w' r ss ∧ ComeRes nxNeed (l.map PV.plc) name ss) ∧ Below w.heap.size w w' := by
  have HC := comeTo_any nxNeed 27 (fun w x y => enters_of Try.func27 (by kernel_rfl) rfl _ w) l v name w hrow hfit (fun x hx y hy W hb => needs1_any x y W (((hrow.2 x hx).below hb).more hb.size) (((hrow.2 y hy).below hb).more hb.size))
  obtain ⟨⟨a, cap, rfl, _, _⟩, _⟩ := hrow
  generalize comeErr (l.map PV.plc) name = R at *
  generalize ComeRes nxNeed (l.map PV.plc) name = CR at *
  generalize l.length = ll at *
  go_enter Try.func10, Try.ntmps10
  go_wp2_with fail
  refine HC.mono ?_
  rintro e w2 ⟨⟨r, ss, rfl, hr, hs⟩, b2⟩
  have HR : Hid (RowOf 1 strCell w2.heap.size w2 r ss ∧ CR ss) := ⟨hr, hs⟩
  clear HC hr hs
  go_wp2
  go_ret2
  exact ⟨⟨r, ss, rfl, HR.out.1, HR.out.2⟩, b2⟩

set_option maxHeartbeats 1000000 in
theorem users_any (l : List PV) (v : Value) (name : ByteArray) (w : World) (hrow : IsPlcs w.heap.size w v l) (hfit : ∀ x ∈ l, x.mod.fits) :
    Calls Try.prog 11 #[v, .string name] w fun e w' => (∃ r ss, e = .returned (.tuple #[r, .int .i64 (comeErr (l.map PV.plc) name)]) ∧ RowOf 1 strCell w'.heap.size w' r ss ∧ ComeRes nxUse (l.map PV.plc) name ss) ∧ Below w.heap.size w w' := by
  have HC := comeTo_any nxUse 29 (fun w x y => enters_of Try.func29 (by kernel_rfl) rfl _ w) l v name w hrow hfit (fun x hx y hy W hb => users1_any x y W (((hrow.2 x hx).below hb).more hb.size) (((hrow.2 y hy).below hb).more hb.size))
  obtain ⟨⟨a, cap, rfl, _, _⟩, _⟩ := hrow
  generalize comeErr (l.map PV.plc) name = R at *
  generalize ComeRes nxUse (l.map PV.plc) name = CR at *
  generalize l.length = ll at *
  go_enter Try.func11, Try.ntmps11
  go_wp2_with fail
  refine HC.mono ?_
  rintro e w2 ⟨⟨r, ss, rfl, hr, hs⟩, b2⟩
  have HR : Hid (RowOf 1 strCell w2.heap.size w2 r ss ∧ CR ss) := ⟨hr, hs⟩
  clear HC hr hs
  go_wp2
  go_ret2
  exact ⟨⟨r, ss, rfl, HR.out.1, HR.out.2⟩, b2⟩

end Go.Proofs.Ytaklbnabgcglhac

/- The function literals of graph.ordered. -/
namespace Go.Proofs.Ytaklbnabgcglhac
open Go.RowKit Go.PlainAid Go.Maps Go.WideMaps

set_option maxRecDepth 100000

theorem cell_grown {W W' : World} {row : Option Nat} (hg : W.grownBy W' row) {b o : Nat} (hlt : b < W.heap.size) (hne : some b ≠ row) : W'.cell? ⟨b, o, none⟩ = W.cell? ⟨b, o, none⟩ := by
  unfold World.cell?
  rw [hg.block b hlt hne]

/-- What the function literals find in memory: the box of all, the map, the map's box, the box of the function that tells who waits. -/
structure OrdAt (W : World) (n₀ n : Nat) (D : DataW Unit) (r : Value) (rs : List PV) (met : List ByteArray) : Prop where
  lt : n₀ + 1 + 1 + 1 < W.heap.size
  c0 : W.cell? ⟨n₀, 0, none⟩ = some r
  own : W.ownsMap Try.prog 9 (plainElem Try.prog 3) (n₀ + 1) n D
  cm : W.cell? ⟨n₀ + 1 + 1, 0, none⟩ = some (.map (some (n₀ + 1)))
  cw : W.cell? ⟨n₀ + 1 + 1 + 1, 0, none⟩ = some (.func (.func 54) #[] #[.pointer (some ⟨n₀ + 1 + 1, 0, none⟩)])
  has : HasNames D met
  row : RowOf 7 PV.cell n₀ W r rs
  at_ : ∀ x ∈ rs, PlcAt n₀ W x
  fit : ∀ x ∈ rs, x.mod.fits
theorem OrdAt.keep {W W' : World} {n₀ n m : Nat} {D : DataW Unit} {r : Value} {rs : List PV} {met : List ByteArray} (h : OrdAt W n₀ n D r rs met) (hb : Below m W W') (hm : n₀ + 1 + 1 + 1 < m) : OrdAt W' n₀ n D r rs met :=
  ⟨Nat.lt_of_lt_of_le h.lt hb.size, (hb.cell (p := ⟨n₀, 0, none⟩) (show n₀ < m by omega)).trans h.c0, map_below h.own hb (by omega), (hb.cell (p := ⟨n₀ + 1 + 1, 0, none⟩) (show n₀ + 1 + 1 < m by omega)).trans h.cm, (hb.cell (p := ⟨n₀ + 1 + 1 + 1, 0, none⟩) hm).trans h.cw, h.has,
   h.row.below (hb.mono (by omega)), fun x hx => (h.at_ x hx).below (hb.mono (by omega)), h.fit⟩
theorem OrdAt.below {W W' : World} {n₀ n : Nat} {D : DataW Unit} {r : Value} {rs : List PV} {met : List ByteArray} (h : OrdAt W n₀ n D r rs met) (hb : Below W.heap.size W W') : OrdAt W' n₀ n D r rs met := h.keep hb h.lt
theorem OrdAt.put {W W' : World} {n₀ n n' : Nat} {D D' : DataW Unit} {r : Value} {rs : List PV} {met met' : List ByteArray} (h : OrdAt W n₀ n D r rs met) (hg : W.grownBy W' (some (n₀ + 1))) (ho : W'.ownsMap Try.prog 9 (plainElem Try.prog 3) (n₀ + 1) n' D') (hh : HasNames D' met') : OrdAt W' n₀ n' D' r rs met' := by
  have hl := h.lt
  have hb : Below n₀ W W' := (Below.refl _ _).grown hg (by omega) (fun k hk => by injection hk with hk; omega)
  refine ⟨Nat.lt_of_lt_of_le h.lt hg.size, (cell_grown hg (by omega) (fun e => ?_)).trans h.c0, ho, (cell_grown hg (by omega) (fun e => ?_)).trans h.cm, (cell_grown hg (by omega) (fun e => ?_)).trans h.cw, hh, h.row.below hb, fun x hx => (h.at_ x hx).below hb, h.fit⟩
  all_goals
    injection e with e
    omega
theorem OrdAt.rowW {W : World} {n₀ n : Nat} {D : DataW Unit} {r : Value} {rs : List PV} {met : List ByteArray} (h : OrdAt W n₀ n D r rs met) : RowOf 7 PV.cell W.heap.size W r rs := h.row.more (by have := h.lt; omega)
theorem OrdAt.atW {W : World} {n₀ n : Nat} {D : DataW Unit} {r : Value} {rs : List PV} {met : List ByteArray} (h : OrdAt W n₀ n D r rs met) : ∀ x ∈ rs, PlcAt W.heap.size W x := fun x hx => (h.at_ x hx).more (by have := h.lt; omega)

set_option maxHeartbeats 2000000 in
theorem ordered1_any (x : PV) (W : World) {n₀ n : Nat} {D : DataW Unit} {r : Value} {rs : List PV} {met : List ByteArray} (h : OrdAt W n₀ n D r rs met) (hx : x ∈ rs) :
    Calls Try.prog 54 #[x.modV, .pointer (some ⟨n₀ + 1 + 1, 0, none⟩)] W fun e w' => e = .returned (.bool (waitsB met x.mod)) ∧ Below W.heap.size W w' := by
  have hn : x.mod.name.size ≤ 9223372036854775807 := (h.fit x hx).1
  have hkey : keyOf Try.prog 9 (.string x.mod.name) = some (.string x.mod.name.data.toList) := keyOf_string_mk Try.underlying9 hn
  have hhas := h.has x.mod.name
  have cm := h.cm
  have lm : n₀ + 1 + 1 < W.heap.size := by have := h.lt; omega
  have hown := h.own
  obtain ⟨⟨pe, ke, e4, _⟩, ⟨pi, ki, e5, _⟩, ⟨pp, kp, e6, _⟩⟩ := h.atW x hx
  clear h hx
  unfold waitsB
  obtain ⟨⟨N, ma, mi, T, es, is, ps⟩, ve, vi, vp, fi⟩ := x
  dsimp only at e4 e5 e6 hn hkey hhas
  subst e4 e5 e6
  dsimp only [PV.modV]
  generalize es.length = le at *
  generalize is.length = li at *
  generalize ps.length = lp at *
  generalize met.any (fun y => y == N) = t at *
  cases t
  all_goals
    go_enter Try.func54, Try.ntmps54
    go_wp2_with (first
      | (at_lookup; refine wpList_lookup_own_ok_int _ rfl _ _ 80 rfl 9 3 .i64 lawS Try.underlying80 Try.underlying3 (zeroI _) (n₀ + 1) n D rfl (hown.kept (World.grownBy_alloc _ _ none) (by simp)) _ _ rfl hkey ?_; intro c hat' hwc; clear hat' hwc))
    go_ret
    exact ⟨rfl, (Below.refl _ _).alloc (Nat.le_refl _) _⟩

set_option maxHeartbeats 2000000 in
theorem ordered21_any (m x : PV) (W : World) {n₀ n : Nat} {D : DataW Unit} {r : Value} {rs : List PV} {met : List ByteArray} (h : OrdAt W n₀ n D r rs met) (hm : m ∈ rs) (hx : x ∈ rs)
    (B3 : Nat) (l3 : B3 < W.heap.size) (h3 : CellsAt W B3 36 #[.string m.mod.name, .int .i64 m.mod.major, .int .i64 m.mod.minor, .string m.mod.text, m.ve, m.vi, m.vp]) :
    Calls Try.prog 57 #[x.modV, .pointer (some ⟨n₀ + 1 + 1 + 1, 0, none⟩), .pointer (some ⟨B3, 0, none⟩)] W fun e w' => e = .returned (.bool (waitsB met x.mod && asksM m.mod x.mod.name)) ∧ Below W.heap.size W w' := by
  have HW : Hid (∀ W', Below W.heap.size W W' → Calls Try.prog 54 #[x.modV, .pointer (some ⟨n₀ + 1 + 1, 0, none⟩)] W' fun e w' => e = .returned (.bool (waitsB met x.mod)) ∧ Below W'.heap.size W' w') := fun W' hb => ordered1_any x W' (h.below hb) hx
  have HA : Hid (∀ W', Below W.heap.size W W' → Calls Try.prog 28 #[m.modV, .string x.mod.name] W' fun e w' => e = .returned (.bool (asksM m.mod x.mod.name)) ∧ Below W'.heap.size W' w') := fun W' hb => asks_any m.mod m.modV x.mod.name W' ((((h.atW m hm).below hb).more hb.size).isMod)
  obtain ⟨⟨pe, ke, e4, _⟩, ⟨pi, ki, e5, _⟩, ⟨pp, kp, e6, _⟩⟩ := h.atW x hx
  obtain ⟨⟨ye, je, f4, _⟩, ⟨yi, ji, f5, _⟩, ⟨yp, jp, f6, _⟩⟩ := h.atW m hm
  have cw := h.cw
  have lw := h.lt
  clear h hx hm
  generalize waitsB met x.mod = t at *
  generalize asksM m.mod x.mod.name = u at *
  obtain ⟨⟨N, ma, mi, T, es, is, ps⟩, ve, vi, vp, fi⟩ := x
  obtain ⟨⟨N', ma', mi', T', es', is', ps'⟩, ve', vi', vp', fi'⟩ := m
  dsimp only at e4 e5 e6 f4 f5 f6 HA h3
  subst e4 e5 e6 f4 f5 f6
  dsimp only [PV.modV] at *
  generalize es.length = le at *
  generalize is.length = li at *
  generalize ps.length = lp at *
  generalize es'.length = le' at *
  generalize is'.length = li' at *
  generalize ps'.length = lp' at *
  have B1 : Hid (Below W.heap.size W (W.alloc (.cells #[.string N, .int .i64 ma, .int .i64 mi, .string T, .slice pe le ke, .slice pi li ki, .slice pp lp kp] 36))) := (Below.refl _ _).alloc (Nat.le_refl _) _
  have C1 : Hid (CellsAt (W.alloc (.cells #[.string N, .int .i64 ma, .int .i64 mi, .string T, .slice pe le ke, .slice pi li ki, .slice pp lp kp] 36)) W.heap.size 36 #[.string N, .int .i64 ma, .int .i64 mi, .string T, .slice pe le ke, .slice pi li ki, .slice pp lp kp]) := CellsAt.new _ _ _
  go_enter Try.func57, Try.ntmps57
  go_wp2_with fail
  refine (HW.out _ B1.out).mono ?_
  rintro e w2 ⟨rfl, b2⟩
  have B2 := B1.out.trans (b2.mono B1.out.size)
  have C2 := C1.out.below b2 (by simp)
  have D2 := h3.below B2 l3
  have l2 : W.heap.size < w2.heap.size := C2.lt
  have n0 := C2.cell 0
  have m0 := D2.cell 0
  have m1 := D2.cell 1
  have m2 := D2.cell 2
  have m3 := D2.cell 3
  have m4 := D2.cell 4
  have m5 := D2.cell 5
  have m6 := D2.cell 6
  simp at n0 m0 m1 m2 m3 m4 m5 m6
  clear HW B1 C1 b2 C2 D2 h3 cw
  cases t
  · clear HA
    go_wp2
    go_ret
    exact ⟨rfl, B2⟩
  · go_wp2_with fail
    refine (HA.out _ B2).mono ?_
    rintro e w3 ⟨rfl, b3⟩
    have B3 := B2.trans (b3.mono B2.size)
    clear HA b3 n0 m0 m1 m2 m3 m4 m5 m6
    go_wp2
    go_ret
    exact ⟨rfl, B3⟩

set_option maxHeartbeats 2000000 in
theorem ordered2_any (m : PV) (W : World) {n₀ n : Nat} {D : DataW Unit} {r : Value} {rs : List PV} {met : List ByteArray} (h : OrdAt W n₀ n D r rs met) (hm : m ∈ rs) :
    Calls Try.prog 55 #[m.modV, .pointer (some ⟨n₀ + 1 + 1 + 1, 0, none⟩), .pointer (some ⟨n₀, 0, none⟩)] W fun e w' => e = .returned (.bool (mayB (rs.map (·.mod)) met m.mod)) ∧ Below W.heap.size W w' := by
  have HW : Hid (∀ W', Below W.heap.size W W' → Calls Try.prog 54 #[m.modV, .pointer (some ⟨n₀ + 1 + 1, 0, none⟩)] W' fun e w' => e = .returned (.bool (waitsB met m.mod)) ∧ Below W'.heap.size W' w') := fun W' hb => ordered1_any m W' (h.below hb) hm
  have HA : Hid (∀ W' B3, Below W.heap.size W W' → CellsAt W' B3 36 #[.string m.mod.name, .int .i64 m.mod.major, .int .i64 m.mod.minor, .string m.mod.text, m.ve, m.vi, m.vp] → Calls Try.prog 56 #[r, .func (.func 57) #[] #[.pointer (some ⟨n₀ + 1 + 1 + 1, 0, none⟩), .pointer (some ⟨B3, 0, none⟩)]] W' fun e w' => e = .returned (.bool (rs.any fun x : PV => waitsB met x.mod && asksM m.mod x.mod.name)) ∧ Below W'.heap.size W' w') := fun W' B3 hb h3 =>
    anyMod_any rs r 57 (.pointer (some ⟨n₀ + 1 + 1 + 1, 0, none⟩)) (.pointer (some ⟨B3, 0, none⟩)) (fun w x => enters_of Try.func57 (by kernel_rfl) rfl _ w) _ W' ((h.below hb).rowW) (fun x hx W2 hb2 => ordered21_any m x W2 ((h.below hb).below hb2) hm hx B3 (Nat.lt_of_lt_of_le h3.lt hb2.size) (h3.below hb2 h3.lt))
  have hmay : mayB (rs.map (·.mod)) met m.mod = (waitsB met m.mod && !(rs.any fun x : PV => waitsB met x.mod && asksM m.mod x.mod.name)) := by
    unfold mayB
    rw [List.any_map]
    rfl
  rw [hmay]
  obtain ⟨⟨pe, ke, e4, _⟩, ⟨pi, ki, e5, _⟩, ⟨pp, kp, e6, _⟩⟩ := h.atW m hm
  have cw := h.cw
  have lw := h.lt
  have c0 := h.c0
  have l0 : n₀ < W.heap.size := by have := h.lt; omega
  obtain ⟨ra, rc, rfl, _, _⟩ := h.rowW
  clear h hm hmay
  generalize (rs.any fun x : PV => waitsB met x.mod && asksM m.mod x.mod.name) = u at *
  generalize waitsB met m.mod = t at *
  obtain ⟨⟨N, ma, mi, T, es, is, ps⟩, ve, vi, vp, fi⟩ := m
  dsimp only at e4 e5 e6 HA
  subst e4 e5 e6
  dsimp only [PV.modV] at *
  generalize es.length = le at *
  generalize is.length = li at *
  generalize ps.length = lp at *
  generalize rs.length = lr at *
  have B1 : Hid (Below W.heap.size W (W.alloc (.cells #[.string N, .int .i64 ma, .int .i64 mi, .string T, .slice pe le ke, .slice pi li ki, .slice pp lp kp] 36))) := (Below.refl _ _).alloc (Nat.le_refl _) _
  have C1 : Hid (CellsAt (W.alloc (.cells #[.string N, .int .i64 ma, .int .i64 mi, .string T, .slice pe le ke, .slice pi li ki, .slice pp lp kp] 36)) W.heap.size 36 #[.string N, .int .i64 ma, .int .i64 mi, .string T, .slice pe le ke, .slice pi li ki, .slice pp lp kp]) := CellsAt.new _ _ _
  go_enter Try.func55, Try.ntmps55
  go_wp2_with fail
  refine (HW.out _ B1.out).mono ?_
  rintro e w2 ⟨rfl, b2⟩
  have B2 := B1.out.trans (b2.mono B1.out.size)
  have C2 := C1.out.below b2 (by simp)
  have l2 : W.heap.size < w2.heap.size := C2.lt
  have c02 := (B2.cell (p := ⟨n₀, 0, none⟩) l0).trans c0
  have HC2 : Hid (CellsAt w2 W.heap.size 36 #[.string N, .int .i64 ma, .int .i64 mi, .string T, .slice pe le ke, .slice pi li ki, .slice pp lp kp]) := C2
  clear HW B1 C1 b2 C2 cw c0
  cases t
  · clear HA HC2
    go_wp2
    go_ret
    exact ⟨rfl, B2⟩
  · go_wp2_with fail
    refine (HA.out _ _ B2 HC2.out).mono ?_
    rintro e w3 ⟨rfl, b3⟩
    have B3 := B2.trans (b3.mono B2.size)
    clear HA b3
    go_wp2
    go_ret
    exact ⟨rfl, B3⟩

end Go.Proofs.Ytaklbnabgcglhac

/- A region that draws its order, and whose last operation writes what was read before: loads may be taken first under a condition that need not hold behind the last. -/
namespace Go.Proofs.Ytaklbnabgcglhac


section
variable {P : Program} {ops : Array Oper} {Q : Exit → Act → World → Prop} {md : Region.Mode} {S : World → Prop}

/-- Whatever order is picked; S holds behind each operation but number x. -/
def wpL (P : Program) (md : Region.Mode) (ops : Array Oper) (Q : Exit → Act → World → Prop) (S : World → Prop) (x : Nat) : Nat → Array Bool → Act → World → Prop
  | 0, listed, a, w => Region.ready md ops listed = [] ∧ Q .normal a w
  | fuel + 1, listed, a, w =>
    (Region.ready md ops listed = [] → Q .normal a w) ∧
    ∀ i ∈ Region.ready md ops listed, wpOp P ops Q i (fun a' w' => (i ≠ x → S w') ∧ wpL P md ops Q S x fuel (listed.setIfInBounds i true) a' w') a w

theorem wpAny_of_L {x : Nat} : ∀ (fuel : Nat) (listed : Array Bool) (a : Act) (w : World), wpL P md ops Q S x fuel listed a w → wpAny P md ops Q fuel listed a w
  | 0, _, _, _, h => h
  | fuel + 1, _, _, _, h => ⟨h.1, fun i hi => wpOp_mono (fun a' w' h' => wpAny_of_L fuel _ a' w' h'.2) (h.2 i hi)⟩

/-- What has come up has come up behind all that it waits for. -/
def Closed (md : Region.Mode) (ops : Array Oper) (listed : Array Bool) : Prop := ∀ j o, listed.getD j false = true → ops[j]? = some o → ∀ e ∈ o.after, Region.binds md e = true → listed.getD e.on false = true

theorem Closed.set {listed : Array Bool} {j : Nat} (h : Closed md ops listed) (hj : j ∈ Region.ready md ops listed) : Closed md ops (listed.setIfInBounds j true) := by
  intro k o hk ho e he hb
  obtain ⟨_, oj, hoj, hall⟩ := mem_ready.1 hj
  by_cases hjk : j = k
  · subst hjk
    rw [hoj] at ho
    injection ho with ho
    subst ho
    exact getD_set_true (hall e he hb)
  · rw [getD_set_ne false hjk] at hk
    exact getD_set_true (h k o hk ho e he hb)

/-- Each operation ahead of x is waited for by a later one, up to x. -/
def Covers (md : Region.Mode) (ops : Array Oper) (x : Nat) : Prop := ∀ k, k < x → ∃ j o e, k < j ∧ j ≤ x ∧ ops[j]? = some o ∧ e ∈ o.after ∧ Region.binds md e = true ∧ e.on = k

theorem covers_all {x : Nat} {listed : Array Bool} (hc : Covers md ops x) (hl : Closed md ops listed) (hx : x ∈ Region.ready md ops listed) : ∀ k, k < x → listed.getD k false = true := by
  obtain ⟨_, ox, hox, hall⟩ := mem_ready.1 hx
  have key : ∀ m k, x - k ≤ m → k < x → listed.getD k false = true := by
    intro m
    induction m with
    | zero => intro k h1 h2; omega
    | succ m ih =>
      intro k h1 h2
      obtain ⟨j, o, e, h3, h4, h5, h6, h7, rfl⟩ := hc k h2
      by_cases hjx : j = x
      · subst hjx
        rw [hox] at h5
        injection h5 with h5
        subst h5
        exact hall e h6 h7
      · exact hl j o (ih j (by omega) (by omega)) h5 e h6 h7
  exact fun k hk => key (x - k) k (Nat.le_refl _) hk

theorem wpL_first {i x : Nat} {oi : Oper} {v : Value} (hi : ops[i]? = some oi) (hsel : ∀ (j : Nat) (o : Oper) cs b, ops[j]? = some o → o.op ≠ .select cs b)
    (hQ : ∀ c a w, Q (.panic c) (a.put oi.dst v) w → Q (.panic c) a w) (hc : Covers md ops x) (hix : i < x) :
    ∀ (fuel : Nat) (listed : Array Bool) (a : Act) (w : World),
      (∀ j oj, ops[j]? = some oj → j ≠ i → listed.getD j true = false → (∀ e ∈ oj.after, Region.binds md e = true → e.on ≠ i) → oi.apart ops oj = true) →
      Closed md ops listed → i ∈ Region.ready md ops listed → YieldsIf P ops S oi v a → S w →
      wpL P md ops Q S x fuel (listed.setIfInBounds i true) (a.put oi.dst v) w → wpL P md ops Q S x (fuel + 1) listed a w := by
  intro fuel
  induction fuel with
  | zero =>
    intro listed a w _ _ hr hy hS H
    refine ⟨fun h => (by rw [h] at hr; cases hr), fun j hj => ?_⟩
    by_cases hji : j = i
    · subst hji; exact hy.wpOp hi hS ⟨fun _ => hS, H⟩
    · have := ready_mono hj hji
      rw [H.1] at this
      cases this
  | succ fuel ih =>
    intro listed a w hfree hcl hr hy hS H
    refine ⟨fun h => (by rw [h] at hr; cases hr), fun j hj => ?_⟩
    by_cases hji : j = i
    · subst hji; exact hy.wpOp hi hS ⟨fun _ => hS, H⟩
    · have hi0 : listed.getD i true = false := (mem_ready.1 hr).1
      have hi1 : listed.getD i false = false := by
        rcases Nat.lt_or_ge i listed.size with h' | h'
        · simpa [h'] using hi0
        · simp [Array.getElem?_eq_none h'] at hi0
      have hjx : j ≠ x := fun e => by
        subst e
        have := covers_all hc hcl hj i hix
        rw [hi1] at this
        cases this
      have h1 := H.2 j (ready_mono hj hji)
      obtain ⟨hjun, oj, hoj, hall⟩ := mem_ready.1 hj
      have hnot : ∀ e ∈ oj.after, Region.binds md e = true → e.on ≠ i := fun e he hb heq => by
        have h2 := hall e he hb
        rw [heq, hi1] at h2
        cases h2
      have h2 := wpOp_putIf hoj (hfree j oj hoj hji hjun hnot) (fun cs b => hsel i oi cs b hi) (fun cs b => hsel j oj cs b hoj) hQ hy h1
      have hfree' : ∀ k ok, ops[k]? = some ok → k ≠ i → (listed.setIfInBounds j true).getD k true = false →
          (∀ e ∈ ok.after, Region.binds md e = true → e.on ≠ i) → oi.apart ops ok = true := fun k ok hk hki hun hno => by
        refine hfree k ok hk hki ?_ hno
        by_cases hjk : j = k
        · subst hjk; exact hjun
        · rw [getD_set_ne true hjk] at hun; exact hun
      refine wpOp_mono (fun a' w' h3 => ⟨h3.2.1, ih (listed.setIfInBounds j true) a' w' hfree' (hcl.set hj) (ready_mono hr (Ne.symm hji)) h3.1 (h3.2.1 hjx) ?_⟩) h2
      rw [Array.setIfInBounds_comm _ _ hji]
      exact h3.2.2

def closedB (md : Region.Mode) (ops : Array Oper) (listed : Array Bool) : Bool :=
  (List.range listed.size).all fun j => !listed.getD j false || ((ops[j]?).map (·.after.all fun e => !Region.binds md e || listed.getD e.on false)).getD true
theorem closedB_spec {listed : Array Bool} (h : closedB md ops listed = true) : Closed md ops listed := by
  intro j o hj ho e he hb
  have hlt : j < listed.size := by
    rcases Nat.lt_or_ge j listed.size with h' | h'
    · exact h'
    · simp [Array.getElem?_eq_none h'] at hj
  simp only [closedB, List.all_eq_true, List.mem_range] at h
  have h1 := h j hlt
  rw [hj, ho] at h1
  simp only [Bool.not_true, Bool.false_or, Option.map_some, Option.getD_some, Array.all_eq_true_iff_forall_mem] at h1
  have h2 := h1 e he
  rw [hb] at h2
  simpa using h2
def coversB (md : Region.Mode) (ops : Array Oper) (x : Nat) : Bool :=
  (List.range x).all fun k => (List.range (x + 1)).any fun j => decide (k < j) && ((ops[j]?).map (·.after.any fun e => Region.binds md e && e.on == k)).getD false
theorem coversB_spec {x : Nat} (h : coversB md ops x = true) : Covers md ops x := by
  intro k hk
  simp only [coversB, List.all_eq_true, List.mem_range] at h
  have h1 := h k hk
  simp only [List.any_eq_true, List.mem_range, Bool.and_eq_true, decide_eq_true_eq] at h1
  obtain ⟨j, hj, hkj, hh⟩ := h1
  cases ho : ops[j]? with
  | none => rw [ho] at hh; simp at hh
  | some o =>
    rw [ho] at hh
    simp only [Option.map_some, Option.getD_some] at hh
    obtain ⟨e, he, hb⟩ := Array.any_eq_true'.1 hh
    simp only [Bool.and_eq_true, beq_iff_eq] at hb
    exact ⟨j, o, e, hkj, by omega, ho, he, hb.1, hb.2⟩

/-- Number i is taken first. -/
theorem wpL_take (i : Nat) {x : Nat} (d : Nat) (v : Value) {oi : Oper} {fuel : Nat} {listed : Array Bool} {tm : Array Value} {df : List Deferred} {w : World} (hi : ops[i]? = some oi)
    (hb : (Region.noSelect ops && (Region.free md ops listed i && ((Region.ready md ops listed).contains i && (closedB md ops listed && (coversB md ops x && decide (i < x)))))) = true)
    (hQ : ∀ c a w, Q (.panic c) (a.put oi.dst v) w → Q (.panic c) a w) (hS : S w) (hd : oi.dst = some d) (hg : oi.guard = none) (hy : ∀ w, S w → (execOp (Act.eval ⟨tm, df⟩) oi).run P w = .ok (.value v) w)
    (h : wpL P md ops Q S x fuel (listed.setIfInBounds i true) ⟨tm.setIfInBounds d v, df⟩ w) : wpL P md ops Q S x (fuel + 1) listed ⟨tm, df⟩ w := by
  simp only [Bool.and_eq_true, decide_eq_true_eq] at hb
  obtain ⟨h1, h2, h3, h4, h5, h6⟩ := hb
  refine wpL_first hi (Region.noSelect_spec h1) hQ (coversB_spec h5) h6 fuel listed ⟨tm, df⟩ w (Region.free_spec hi h2) (closedB_spec h4) (by simpa using h3) (.inl ⟨by simp [Region.wanted, hg], hy⟩) hS ?_
  rw [hd]
  exact h

/-- Number i alone may come up. -/
theorem wpL_step {i x : Nat} {o : Oper} {fuel : Nat} {listed : Array Bool} {a : Act} {w : World} (ho : ops[i]? = some o) (hr : Region.ready md ops listed = [i])
    (h : ∀ K' : Act → World → Prop, Shut (∀ a w, S w → (S w → wpL P md ops Q S x fuel (listed.setIfInBounds i true) a w) → K' a w) → if Region.wanted o (yielded ops a.tmps) = true then Oper.wp P o a w K' Q else K' (a.put o.dst undef) w) :
    wpL P md ops Q S x (fuel + 1) listed a w := by
  refine ⟨fun h0 => (by rw [hr] at h0; cases h0), fun j hj => ?_⟩
  rw [hr] at hj
  obtain rfl : j = i := by simpa using hj
  exact wpOp_step ho (fun K' hK => h K' (fun a w hS hW => hK a w ⟨fun _ => hS, hW hS⟩))

/-- One of two comes up. -/
theorem wpL_two {i j x : Nat} {o p : Oper} {fuel : Nat} {listed : Array Bool} {a : Act} {w : World} (ho : ops[i]? = some o) (hp : ops[j]? = some p) (hr : Region.ready md ops listed = [i, j])
    (h : ∀ K' : Act → World → Prop, Shut (∀ a w, S w → (S w → wpL P md ops Q S x fuel (listed.setIfInBounds i true) a w) → K' a w) → if Region.wanted o (yielded ops a.tmps) = true then Oper.wp P o a w K' Q else K' (a.put o.dst undef) w)
    (h2 : ∀ K' : Act → World → Prop, Shut (∀ a w, S w → (S w → wpL P md ops Q S x fuel (listed.setIfInBounds j true) a w) → K' a w) → if Region.wanted p (yielded ops a.tmps) = true then Oper.wp P p a w K' Q else K' (a.put p.dst undef) w) :
    wpL P md ops Q S x (fuel + 1) listed a w := by
  refine ⟨fun h0 => (by rw [hr] at h0; cases h0), fun k hk => ?_⟩
  rw [hr] at hk
  rcases List.mem_cons.1 hk with rfl | hk
  · exact wpOp_step ho (fun K' hK => h K' (fun a w hS hW => hK a w ⟨fun _ => hS, hW hS⟩))
  · obtain rfl : k = j := by simpa using hk
    exact wpOp_step hp (fun K' hK => h2 K' (fun a w hS hW => hK a w ⟨fun _ => hS, hW hS⟩))

/-- The last one. -/
theorem wpL_last {x : Nat} {o : Oper} {fuel : Nat} {listed : Array Bool} {a : Act} {w : World} (ho : ops[x]? = some o) (hr : Region.ready md ops listed = [x]) (hr2 : Region.ready md ops (listed.setIfInBounds x true) = [])
    (h : ∀ K' : Act → World → Prop, Shut (∀ a w, Q .normal a w → K' a w) → if Region.wanted o (yielded ops a.tmps) = true then Oper.wp P o a w K' Q else K' (a.put o.dst undef) w) :
    wpL P md ops Q S x (fuel + 1) listed a w := by
  refine ⟨fun h0 => (by rw [hr] at h0; cases h0), fun j hj => ?_⟩
  rw [hr] at hj
  obtain rfl : j = x := by simpa using hj
  refine wpOp_step ho (fun K' hK => h K' (fun a w hq => hK a w ⟨fun h => absurd rfl h, ?_⟩))
  cases fuel with
  | zero => exact ⟨hr2, hq⟩
  | succ n => exact ⟨fun _ => hq, by rw [hr2]; simp⟩

/-- The beginning. -/
theorem wp_region_L {x : Nat} {id : Nat} {a : Act} {w : World} (hm : P.follows .mixedOrders = true)
    (h : wpL P .any ops Q S x ops.size (Array.replicate ops.size false) a w.drew) : (Code.region id ops true).wp P Q a w :=
  wp_region_any hm (wpAny_of_L _ _ _ _ h)

end

end Go.Proofs.Ytaklbnabgcglhac
