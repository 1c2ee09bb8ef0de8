/- The function literals of graph.ordered. -/
import Derived.Test.YtaklbnabgcglhabGrI
import Derived.Test.YtaklbnabgcglhabGrC1
import Derived.Laws.EntriesVeiled
namespace Go.Proofs.Ytaklbnabgcglhab
open Go.RowKit Go.PlainAid Go.Maps Go.WideMaps

set_option maxRecDepth 100000

theorem cell_grown {W W' : World} {row : Option Nat} (hg : W.grownBy W' row) {b o : Nat} (hlt : b < W.heap.size) (hne : some b ≠ row) : W'.cell? ⟨b, o, none⟩ = W.cell? ⟨b, o, none⟩ := by
  unfold World.cell?
  rw [hg.block b hlt hne]

/-- What the function literals find in memory: the box of all, the map, the map's box, the box of the function that tells who waits. -/
structure OrdAt (W : World) (n₀ n : Nat) (D : DataW Unit) (r : Value) (rs : List PV) (met : List ByteArray) : Prop where
  lt : n₀ + 1 + 1 + 1 < W.heap.size
  c0 : W.cell? ⟨n₀, 0, none⟩ = some r
  own : W.ownsMap Try.prog 9 (plainElem Try.prog 3) (n₀ + 1) n D
  cm : W.cell? ⟨n₀ + 1 + 1, 0, none⟩ = some (.map (some (n₀ + 1)))
  cw : W.cell? ⟨n₀ + 1 + 1 + 1, 0, none⟩ = some (.func (.func 89) #[] #[.pointer (some ⟨n₀ + 1 + 1, 0, none⟩)])
  has : HasNames D met
  row : RowOf 7 PV.cell n₀ W r rs
  at_ : ∀ x ∈ rs, PlcAt n₀ W x
  fit : ∀ x ∈ rs, x.mod.fits
theorem OrdAt.keep {W W' : World} {n₀ n m : Nat} {D : DataW Unit} {r : Value} {rs : List PV} {met : List ByteArray} (h : OrdAt W n₀ n D r rs met) (hb : Below m W W') (hm : n₀ + 1 + 1 + 1 < m) : OrdAt W' n₀ n D r rs met :=
  ⟨Nat.lt_of_lt_of_le h.lt hb.size, (hb.cell (p := ⟨n₀, 0, none⟩) (show n₀ < m by omega)).trans h.c0, map_below h.own hb (by omega), (hb.cell (p := ⟨n₀ + 1 + 1, 0, none⟩) (show n₀ + 1 + 1 < m by omega)).trans h.cm, (hb.cell (p := ⟨n₀ + 1 + 1 + 1, 0, none⟩) hm).trans h.cw, h.has,
   h.row.below (hb.mono (by omega)), fun x hx => (h.at_ x hx).below (hb.mono (by omega)), h.fit⟩
theorem OrdAt.below {W W' : World} {n₀ n : Nat} {D : DataW Unit} {r : Value} {rs : List PV} {met : List ByteArray} (h : OrdAt W n₀ n D r rs met) (hb : Below W.heap.size W W') : OrdAt W' n₀ n D r rs met := h.keep hb h.lt
theorem OrdAt.put {W W' : World} {n₀ n n' : Nat} {D D' : DataW Unit} {r : Value} {rs : List PV} {met met' : List ByteArray} (h : OrdAt W n₀ n D r rs met) (hg : W.grownBy W' (some (n₀ + 1))) (ho : W'.ownsMap Try.prog 9 (plainElem Try.prog 3) (n₀ + 1) n' D') (hh : HasNames D' met') : OrdAt W' n₀ n' D' r rs met' := by
  have hl := h.lt
  have hb : Below n₀ W W' := (Below.refl _ _).grown hg (by omega) (fun k hk => by injection hk with hk; omega)
  refine ⟨Nat.lt_of_lt_of_le h.lt hg.size, (cell_grown hg (by omega) (fun e => ?_)).trans h.c0, ho, (cell_grown hg (by omega) (fun e => ?_)).trans h.cm, (cell_grown hg (by omega) (fun e => ?_)).trans h.cw, hh, h.row.below hb, fun x hx => (h.at_ x hx).below hb, h.fit⟩
  all_goals
    injection e with e
    omega
theorem OrdAt.rowW {W : World} {n₀ n : Nat} {D : DataW Unit} {r : Value} {rs : List PV} {met : List ByteArray} (h : OrdAt W n₀ n D r rs met) : RowOf 7 PV.cell W.heap.size W r rs := h.row.more (by have := h.lt; omega)
theorem OrdAt.atW {W : World} {n₀ n : Nat} {D : DataW Unit} {r : Value} {rs : List PV} {met : List ByteArray} (h : OrdAt W n₀ n D r rs met) : ∀ x ∈ rs, PlcAt W.heap.size W x := fun x hx => (h.at_ x hx).more (by have := h.lt; omega)

set_option maxHeartbeats 2000000 in
theorem ordered1_any (x : PV) (W : World) {n₀ n : Nat} {D : DataW Unit} {r : Value} {rs : List PV} {met : List ByteArray} (h : OrdAt W n₀ n D r rs met) (hx : x ∈ rs) :
    Calls Try.prog 89 #[x.modV, .pointer (some ⟨n₀ + 1 + 1, 0, none⟩)] W fun e w' => e = .returned (.bool (waitsB met x.mod)) ∧ Below W.heap.size W w' := by
  have hn : x.mod.name.size ≤ 9223372036854775807 := (h.fit x hx).1
  have hkey : keyOf Try.prog 9 (.string x.mod.name) = some (.string x.mod.name.data.toList) := keyOf_string_mk Try.underlying9 hn
  have hhas := h.has x.mod.name
  have cm := h.cm
  have lm : n₀ + 1 + 1 < W.heap.size := by have := h.lt; omega
  have hown := h.own
  obtain ⟨⟨pe, ke, e4, _⟩, ⟨pi, ki, e5, _⟩, ⟨pp, kp, e6, _⟩⟩ := h.atW x hx
  clear h hx
  unfold waitsB
  obtain ⟨⟨N, ma, mi, T, es, is, ps⟩, ve, vi, vp, fi⟩ := x
  dsimp only at e4 e5 e6 hn hkey hhas
  subst e4 e5 e6
  dsimp only [PV.modV]
  generalize es.length = le at *
  generalize is.length = li at *
  generalize ps.length = lp at *
  generalize met.any (fun y => y == N) = t at *
  cases t
  all_goals
    go_enter Try.func89, Try.ntmps89
    go_wp2_with (first
      | (at_lookup; refine wpList_lookup_own_ok_int _ rfl _ _ 125 rfl 9 3 .i64 lawS Try.underlying125 Try.underlying3 (zeroI _) (n₀ + 1) n D rfl (hown.kept (World.grownBy_alloc _ _ none) (by simp)) _ _ rfl hkey ?_; intro c hat' hwc; clear hat' hwc))
    go_ret
    exact ⟨rfl, (Below.refl _ _).alloc (Nat.le_refl _) _⟩

set_option maxHeartbeats 2000000 in
theorem ordered21_any (m x : PV) (W : World) {n₀ n : Nat} {D : DataW Unit} {r : Value} {rs : List PV} {met : List ByteArray} (h : OrdAt W n₀ n D r rs met) (hm : m ∈ rs) (hx : x ∈ rs)
    (B3 : Nat) (l3 : B3 < W.heap.size) (h3 : CellsAt W B3 44 #[.string m.mod.name, .int .i64 m.mod.major, .int .i64 m.mod.minor, .string m.mod.text, m.ve, m.vi, m.vp]) :
    Calls Try.prog 92 #[x.modV, .pointer (some ⟨n₀ + 1 + 1 + 1, 0, none⟩), .pointer (some ⟨B3, 0, none⟩)] W fun e w' => e = .returned (.bool (waitsB met x.mod && asksM m.mod x.mod.name)) ∧ Below W.heap.size W w' := by
  have HW : Hid (∀ W', Below W.heap.size W W' → Calls Try.prog 89 #[x.modV, .pointer (some ⟨n₀ + 1 + 1, 0, none⟩)] W' fun e w' => e = .returned (.bool (waitsB met x.mod)) ∧ Below W'.heap.size W' w') := fun W' hb => ordered1_any x W' (h.below hb) hx
  have HA : Hid (∀ W', Below W.heap.size W W' → Calls Try.prog 60 #[m.modV, .string x.mod.name] W' fun e w' => e = .returned (.bool (asksM m.mod x.mod.name)) ∧ Below W'.heap.size W' w') := fun W' hb => asks_any m.mod m.modV x.mod.name W' ((((h.atW m hm).below hb).more hb.size).isMod)
  obtain ⟨⟨pe, ke, e4, _⟩, ⟨pi, ki, e5, _⟩, ⟨pp, kp, e6, _⟩⟩ := h.atW x hx
  obtain ⟨⟨ye, je, f4, _⟩, ⟨yi, ji, f5, _⟩, ⟨yp, jp, f6, _⟩⟩ := h.atW m hm
  have cw := h.cw
  have lw := h.lt
  clear h hx hm
  generalize waitsB met x.mod = t at *
  generalize asksM m.mod x.mod.name = u at *
  obtain ⟨⟨N, ma, mi, T, es, is, ps⟩, ve, vi, vp, fi⟩ := x
  obtain ⟨⟨N', ma', mi', T', es', is', ps'⟩, ve', vi', vp', fi'⟩ := m
  dsimp only at e4 e5 e6 f4 f5 f6 HA h3
  subst e4 e5 e6 f4 f5 f6
  dsimp only [PV.modV] at *
  generalize es.length = le at *
  generalize is.length = li at *
  generalize ps.length = lp at *
  generalize es'.length = le' at *
  generalize is'.length = li' at *
  generalize ps'.length = lp' at *
  have B1 : Hid (Below W.heap.size W (W.alloc (.cells #[.string N, .int .i64 ma, .int .i64 mi, .string T, .slice pe le ke, .slice pi li ki, .slice pp lp kp] 44))) := (Below.refl _ _).alloc (Nat.le_refl _) _
  have C1 : Hid (CellsAt (W.alloc (.cells #[.string N, .int .i64 ma, .int .i64 mi, .string T, .slice pe le ke, .slice pi li ki, .slice pp lp kp] 44)) W.heap.size 44 #[.string N, .int .i64 ma, .int .i64 mi, .string T, .slice pe le ke, .slice pi li ki, .slice pp lp kp]) := CellsAt.new _ _ _
  go_enter Try.func92, Try.ntmps92
  go_wp2_with fail
  refine (HW.out _ B1.out).mono ?_
  rintro e w2 ⟨rfl, b2⟩
  have B2 := B1.out.trans (b2.mono B1.out.size)
  have C2 := C1.out.below b2 (by simp)
  have D2 := h3.below B2 l3
  have l2 : W.heap.size < w2.heap.size := C2.lt
  have n0 := C2.cell 0
  have m0 := D2.cell 0
  have m1 := D2.cell 1
  have m2 := D2.cell 2
  have m3 := D2.cell 3
  have m4 := D2.cell 4
  have m5 := D2.cell 5
  have m6 := D2.cell 6
  simp at n0 m0 m1 m2 m3 m4 m5 m6
  clear HW B1 C1 b2 C2 D2 h3 cw
  cases t
  · clear HA
    go_wp2
    go_ret
    exact ⟨rfl, B2⟩
  · go_wp2_with fail
    refine (HA.out _ B2).mono ?_
    rintro e w3 ⟨rfl, b3⟩
    have B3 := B2.trans (b3.mono B2.size)
    clear HA b3 n0 m0 m1 m2 m3 m4 m5 m6
    go_wp2
    go_ret
    exact ⟨rfl, B3⟩

set_option maxHeartbeats 2000000 in
theorem ordered2_any (m : PV) (W : World) {n₀ n : Nat} {D : DataW Unit} {r : Value} {rs : List PV} {met : List ByteArray} (h : OrdAt W n₀ n D r rs met) (hm : m ∈ rs) :
    Calls Try.prog 90 #[m.modV, .pointer (some ⟨n₀ + 1 + 1 + 1, 0, none⟩), .pointer (some ⟨n₀, 0, none⟩)] W fun e w' => e = .returned (.bool (mayB (rs.map (·.mod)) met m.mod)) ∧ Below W.heap.size W w' := by
  have HW : Hid (∀ W', Below W.heap.size W W' → Calls Try.prog 89 #[m.modV, .pointer (some ⟨n₀ + 1 + 1, 0, none⟩)] W' fun e w' => e = .returned (.bool (waitsB met m.mod)) ∧ Below W'.heap.size W' w') := fun W' hb => ordered1_any m W' (h.below hb) hm
  have HA : Hid (∀ W' B3, Below W.heap.size W W' → CellsAt W' B3 44 #[.string m.mod.name, .int .i64 m.mod.major, .int .i64 m.mod.minor, .string m.mod.text, m.ve, m.vi, m.vp] → Calls Try.prog 91 #[r, .func (.func 92) #[] #[.pointer (some ⟨n₀ + 1 + 1 + 1, 0, none⟩), .pointer (some ⟨B3, 0, none⟩)]] W' fun e w' => e = .returned (.bool (rs.any fun x : PV => waitsB met x.mod && asksM m.mod x.mod.name)) ∧ Below W'.heap.size W' w') := fun W' B3 hb h3 =>
    anyMod_any rs r 92 (.pointer (some ⟨n₀ + 1 + 1 + 1, 0, none⟩)) (.pointer (some ⟨B3, 0, none⟩)) (fun w x => enters_of Try.func92 (by kernel_rfl) rfl _ w) _ W' ((h.below hb).rowW) (fun x hx W2 hb2 => ordered21_any m x W2 ((h.below hb).below hb2) hm hx B3 (Nat.lt_of_lt_of_le h3.lt hb2.size) (h3.below hb2 h3.lt))
  have hmay : mayB (rs.map (·.mod)) met m.mod = (waitsB met m.mod && !(rs.any fun x : PV => waitsB met x.mod && asksM m.mod x.mod.name)) := by
    unfold mayB
    rw [List.any_map]
    rfl
  rw [hmay]
  obtain ⟨⟨pe, ke, e4, _⟩, ⟨pi, ki, e5, _⟩, ⟨pp, kp, e6, _⟩⟩ := h.atW m hm
  have cw := h.cw
  have lw := h.lt
  have c0 := h.c0
  have l0 : n₀ < W.heap.size := by have := h.lt; omega
  obtain ⟨ra, rc, rfl, _, _⟩ := h.rowW
  clear h hm hmay
  generalize (rs.any fun x : PV => waitsB met x.mod && asksM m.mod x.mod.name) = u at *
  generalize waitsB met m.mod = t at *
  obtain ⟨⟨N, ma, mi, T, es, is, ps⟩, ve, vi, vp, fi⟩ := m
  dsimp only at e4 e5 e6 HA
  subst e4 e5 e6
  dsimp only [PV.modV] at *
  generalize es.length = le at *
  generalize is.length = li at *
  generalize ps.length = lp at *
  generalize rs.length = lr at *
  have B1 : Hid (Below W.heap.size W (W.alloc (.cells #[.string N, .int .i64 ma, .int .i64 mi, .string T, .slice pe le ke, .slice pi li ki, .slice pp lp kp] 44))) := (Below.refl _ _).alloc (Nat.le_refl _) _
  have C1 : Hid (CellsAt (W.alloc (.cells #[.string N, .int .i64 ma, .int .i64 mi, .string T, .slice pe le ke, .slice pi li ki, .slice pp lp kp] 44)) W.heap.size 44 #[.string N, .int .i64 ma, .int .i64 mi, .string T, .slice pe le ke, .slice pi li ki, .slice pp lp kp]) := CellsAt.new _ _ _
  go_enter Try.func90, Try.ntmps90
  go_wp2_with fail
  refine (HW.out _ B1.out).mono ?_
  rintro e w2 ⟨rfl, b2⟩
  have B2 := B1.out.trans (b2.mono B1.out.size)
  have C2 := C1.out.below b2 (by simp)
  have l2 : W.heap.size < w2.heap.size := C2.lt
  have c02 := (B2.cell (p := ⟨n₀, 0, none⟩) l0).trans c0
  have HC2 : Hid (CellsAt w2 W.heap.size 44 #[.string N, .int .i64 ma, .int .i64 mi, .string T, .slice pe le ke, .slice pi li ki, .slice pp lp kp]) := C2
  clear HW B1 C1 b2 C2 cw c0
  cases t
  · clear HA HC2
    go_wp2
    go_ret
    exact ⟨rfl, B2⟩
  · go_wp2_with fail
    refine (HA.out _ _ B2 HC2.out).mono ?_
    rintro e w3 ⟨rfl, b3⟩
    have B3 := B2.trans (b3.mono B2.size)
    clear HA b3
    go_wp2
    go_ret
    exact ⟨rfl, B3⟩

end Go.Proofs.Ytaklbnabgcglhab
