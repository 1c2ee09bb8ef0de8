/- Texts that are laid together. -/
import Derived.Test.YtlpnfbpgnfappaaGreatMrgH
import Derived.Laws.EntriesVeiled
import Derived.Test.YtlpnfbpgnfappaaGreatMrgF
import Derived.Test.YtlpnfbpgnfappaaGreatMrgD
import Derived.Shelf.SlSortCmp.SmallK
import Derived.Ground.SlsfProg
import Derived.Test.YtlpnfbpgnfappaaGreatProg
import Derived.Lib.Bytealg

/- What graph.comeTo is told, and its cases. -/
namespace Go.Proofs.YtlpnfbpgnfappaaGreat
open Go.RowKit Go.PlainAid Go.Maps Go.WideMaps

set_option maxRecDepth 100000

def comeErr (L : List Plc) (name : ByteArray) : Int := if chkGraph L ≠ 0 then chkGraph L else if (L.any fun p => p.mod.name == name) = true then 0 else 5
def Comes (nx : Mod → Mod → Bool) (Ms : List Mod) (f : Nat) (ss : List ByteArray) : Prop := Rising ss ∧ ∀ x, x ∈ ss ↔ ∃ k, Via (Next nx Ms) f k ∧ nameAt Ms k = x
def ComeRes (nx : Mod → Mod → Bool) (L : List Plc) (name : ByteArray) (ss : List ByteArray) : Prop :=
  (comeErr L name ≠ 0 ∧ ss = []) ∨ (comeErr L name = 0 ∧ ∃ f, f < L.length ∧ nameAt (L.map (·.mod)) f = name ∧ Comes nx (L.map (·.mod)) f ss)

theorem come_cases (nx : Mod → Mod → Bool) (l : List PV) (name : ByteArray) :
    (chkGraph (l.map PV.plc) ≠ 0 ∧ comeErr (l.map PV.plc) name = chkGraph (l.map PV.plc) ∧ ComeRes nx (l.map PV.plc) name []) ∨
    (chkGraph (l.map PV.plc) = 0 ∧ ixFrom (fun x : PV => x.mod.name == name) 0 l = -1 ∧ comeErr (l.map PV.plc) name = 5 ∧ ComeRes nx (l.map PV.plc) name []) ∨
    (chkGraph (l.map PV.plc) = 0 ∧ ∃ f : Nat, f < l.length ∧ ixFrom (fun x : PV => x.mod.name == name) 0 l = (f : Int) ∧ comeErr (l.map PV.plc) name = 0 ∧ ∀ ss, Comes nx (l.map (·.mod)) f ss → ComeRes nx (l.map PV.plc) name ss) := by
  have hany : ((l.map PV.plc).any fun p => p.mod.name == name) = l.any fun x : PV => x.mod.name == name := by rw [List.any_map]; rfl
  have hmm : (l.map PV.plc).map (·.mod) = l.map (·.mod) := by rw [List.map_map]; rfl
  by_cases h0 : chkGraph (l.map PV.plc) = 0
  · rcases ix_find (fun x : PV => x.mod.name == name) l 0 with ⟨h1, h2⟩ | ⟨j, x, h1, h2, h3⟩
    · have h4 : (l.any fun x : PV => x.mod.name == name) = false := by
        rw [← Bool.not_eq_true, List.any_eq_true]
        rintro ⟨y, hy, he⟩
        exact List.find?_eq_none.1 h1 y hy he
      have h5 : comeErr (l.map PV.plc) name = 5 := by
        unfold comeErr
        rw [if_neg (by omega), hany, h4]; rfl
      exact .inr (.inl ⟨h0, h2, h5, .inl ⟨by omega, rfl⟩⟩)
    · have h6 : (x.mod.name == name) = true := by simpa using List.find?_some h1
      have h4 : (l.any fun x : PV => x.mod.name == name) = true := List.any_eq_true.2 ⟨x, List.mem_of_getElem? h2, h6⟩
      have h5 : comeErr (l.map PV.plc) name = 0 := by
        unfold comeErr
        rw [if_neg (by omega), hany, h4]; rfl
      have hj : j < l.length := (List.getElem?_eq_some_iff.1 h2).1
      refine .inr (.inr ⟨h0, j, hj, by rw [h3, Nat.zero_add], h5, fun ss hs => .inr ⟨h5, j, by simpa using hj, ?_, by rw [hmm]; exact hs⟩⟩)
      rw [hmm, nameAt_some (x := x.mod) (by rw [List.getElem?_map, h2]; rfl)]
      exact (Go.MapKept.bytes_beq _ _).1 h6
  · have h5 : comeErr (l.map PV.plc) name = chkGraph (l.map PV.plc) := by
      unfold comeErr
      rw [if_pos h0]
    exact .inl ⟨h0, h5, .inl ⟨by rw [h5]; exact h0, rfl⟩⟩

set_option maxHeartbeats 1000000 in
theorem come1_any (B : Nat) (name : ByteArray) (x : PV) (w : World) (hlt : B < w.heap.size) (hB : w.cell? ⟨B, 0, none⟩ = some (.string name)) (hat : PlcAt w.heap.size w x) :
    Calls Tryz.prog 153 #[x.val, .pointer (some ⟨B, 0, none⟩)] w fun e w' => e = .returned (.bool (x.mod.name == name)) ∧ Below w.heap.size w w' := by
  rw [← toList_beq2]
  obtain ⟨⟨pe, ke, e4, _⟩, ⟨pi, ki, e5, _⟩, ⟨pp, kp, e6, _⟩⟩ := hat
  obtain ⟨⟨N, ma, mi, T, es, is, ps⟩, ve, vi, vp, fi⟩ := x
  dsimp only at e4 e5 e6
  subst e4 e5 e6
  dsimp only [PV.val]
  generalize es.length = le at *
  generalize is.length = li at *
  generalize ps.length = lp at *
  go_enter Tryz.func153, Tryz.ntmps153
  go_wp2
  go_ret
  exact ⟨rfl, (Below.refl _ _).alloc (Nat.le_refl _) _⟩

/-- What the walk is told of those that are placed. -/
structure Told (nx : Mod → Mod → Bool) (l : List PV) (E : Nat → Nat → Prop) (nA : Nat → ByteArray) : Prop where
  edge : ∀ (i k : Nat) (x y : PV), l[i]? = some x → l[k]? = some y → (E i k ↔ nx x.mod y.mod = true)
  lt : ∀ i k, E i k → k < l.length
  name : ∀ (k : Nat) (x : PV), l[k]? = some x → nA k = x.mod.name
  met : ∀ (met : List Nat), (∀ k ∈ met, k < l.length) → ∀ i, i < l.length → (((met.map nA).any fun y => y == nA i) = true ↔ i ∈ met)
  nodup : ∀ met : List Nat, (∀ k ∈ met, k < l.length) → met.Nodup → (met.map nA).Nodup
theorem told_of (nx : Mod → Mod → Bool) (l : List PV) (hd : (l.map (·.mod.name)).Nodup) : Told nx l (Next nx (l.map (·.mod))) (nameAt (l.map (·.mod))) := by
  have hd2 : ((l.map (·.mod)).map (·.name)).Nodup := by rw [List.map_map]; exact hd
  have at_ : ∀ (k : Nat) (x : PV), l[k]? = some x → (l.map (·.mod))[k]? = some x.mod := fun k x h => by rw [List.getElem?_map, h]; rfl
  refine ⟨fun i k x y hx hy => Next.iff (at_ i x hx) (at_ k y hy), fun i k h => by simpa using h.lt.2, fun k x hx => nameAt_some (at_ k x hx), fun met hm i hi => any_name hd2 (by simpa using hm) (by simpa using hi), fun met hm hn => ?_⟩
  exact List.pairwise_map.2 (hn.imp_of_mem fun {a b} ha hb hne e => hne (nameAt_inj hd2 (by simpa using hm a ha) (by simpa using hm b hb) e))

theorem map_below {W W' : World} {t : TypeId} {R : Value → Option (DataW Unit × List MemPlace)} {b n m : Nat} {D : DataW Unit} (h : W.ownsMap Tryz.prog t R b n D) (hb : Below m W W') (hlt : b < m) : W'.ownsMap Tryz.prog t R b n D := by
  obtain ⟨es, clock, h1, Ft, hs, hD⟩ := h
  exact ⟨es, clock, (hb.block b hlt).trans h1, Ft, hs, hD⟩

end Go.Proofs.YtlpnfbpgnfappaaGreat

/- The function literals of graph.ordered. -/
namespace Go.Proofs.YtlpnfbpgnfappaaGreat
open Go.RowKit Go.PlainAid Go.Maps Go.WideMaps

set_option maxRecDepth 100000

theorem cell_grown {W W' : World} {row : Option Nat} (hg : W.grownBy W' row) {b o : Nat} (hlt : b < W.heap.size) (hne : some b ≠ row) : W'.cell? ⟨b, o, none⟩ = W.cell? ⟨b, o, none⟩ := by
  unfold World.cell?
  rw [hg.block b hlt hne]

/-- What the function literals find in memory: the box of all, the map, the map's box, the box of the function that tells who waits. -/
structure OrdAt (W : World) (n₀ n : Nat) (D : DataW Unit) (r : Value) (rs : List PV) (met : List ByteArray) : Prop where
  lt : n₀ + 1 + 1 + 1 < W.heap.size
  c0 : W.cell? ⟨n₀, 0, none⟩ = some r
  own : W.ownsMap Tryz.prog 9 (plainElem Tryz.prog 3) (n₀ + 1) n D
  cm : W.cell? ⟨n₀ + 1 + 1, 0, none⟩ = some (.map (some (n₀ + 1)))
  cw : W.cell? ⟨n₀ + 1 + 1 + 1, 0, none⟩ = some (.func (.func 142) #[] #[.pointer (some ⟨n₀ + 1 + 1, 0, none⟩)])
  has : HasNames D met
  row : RowOf 7 PV.cell n₀ W r rs
  at_ : ∀ x ∈ rs, PlcAt n₀ W x
  fit : ∀ x ∈ rs, x.mod.fits
theorem OrdAt.keep {W W' : World} {n₀ n m : Nat} {D : DataW Unit} {r : Value} {rs : List PV} {met : List ByteArray} (h : OrdAt W n₀ n D r rs met) (hb : Below m W W') (hm : n₀ + 1 + 1 + 1 < m) : OrdAt W' n₀ n D r rs met :=
  ⟨Nat.lt_of_lt_of_le h.lt hb.size, (hb.cell (p := ⟨n₀, 0, none⟩) (show n₀ < m by omega)).trans h.c0, map_below h.own hb (by omega), (hb.cell (p := ⟨n₀ + 1 + 1, 0, none⟩) (show n₀ + 1 + 1 < m by omega)).trans h.cm, (hb.cell (p := ⟨n₀ + 1 + 1 + 1, 0, none⟩) hm).trans h.cw, h.has,
   h.row.below (hb.mono (by omega)), fun x hx => (h.at_ x hx).below (hb.mono (by omega)), h.fit⟩
theorem OrdAt.below {W W' : World} {n₀ n : Nat} {D : DataW Unit} {r : Value} {rs : List PV} {met : List ByteArray} (h : OrdAt W n₀ n D r rs met) (hb : Below W.heap.size W W') : OrdAt W' n₀ n D r rs met := h.keep hb h.lt
theorem OrdAt.put {W W' : World} {n₀ n n' : Nat} {D D' : DataW Unit} {r : Value} {rs : List PV} {met met' : List ByteArray} (h : OrdAt W n₀ n D r rs met) (hg : W.grownBy W' (some (n₀ + 1))) (ho : W'.ownsMap Tryz.prog 9 (plainElem Tryz.prog 3) (n₀ + 1) n' D') (hh : HasNames D' met') : OrdAt W' n₀ n' D' r rs met' := by
  have hl := h.lt
  have hb : Below n₀ W W' := (Below.refl _ _).grown hg (by omega) (fun k hk => by injection hk with hk; omega)
  refine ⟨Nat.lt_of_lt_of_le h.lt hg.size, (cell_grown hg (by omega) (fun e => ?_)).trans h.c0, ho, (cell_grown hg (by omega) (fun e => ?_)).trans h.cm, (cell_grown hg (by omega) (fun e => ?_)).trans h.cw, hh, h.row.below hb, fun x hx => (h.at_ x hx).below hb, h.fit⟩
  all_goals
    injection e with e
    omega
theorem OrdAt.rowW {W : World} {n₀ n : Nat} {D : DataW Unit} {r : Value} {rs : List PV} {met : List ByteArray} (h : OrdAt W n₀ n D r rs met) : RowOf 7 PV.cell W.heap.size W r rs := h.row.more (by have := h.lt; omega)
theorem OrdAt.atW {W : World} {n₀ n : Nat} {D : DataW Unit} {r : Value} {rs : List PV} {met : List ByteArray} (h : OrdAt W n₀ n D r rs met) : ∀ x ∈ rs, PlcAt W.heap.size W x := fun x hx => (h.at_ x hx).more (by have := h.lt; omega)

set_option maxHeartbeats 2000000 in
theorem ordered1_any (x : PV) (W : World) {n₀ n : Nat} {D : DataW Unit} {r : Value} {rs : List PV} {met : List ByteArray} (h : OrdAt W n₀ n D r rs met) (hx : x ∈ rs) :
    Calls Tryz.prog 142 #[x.modV, .pointer (some ⟨n₀ + 1 + 1, 0, none⟩)] W fun e w' => e = .returned (.bool (waitsB met x.mod)) ∧ Below W.heap.size W w' := by
  have hn : x.mod.name.size ≤ 9223372036854775807 := (h.fit x hx).1
  have hkey : keyOf Tryz.prog 9 (.string x.mod.name) = some (.string x.mod.name.data.toList) := keyOf_string_mk Tryz.underlying9 hn
  have hhas := h.has x.mod.name
  have cm := h.cm
  have lm : n₀ + 1 + 1 < W.heap.size := by have := h.lt; omega
  have hown := h.own
  obtain ⟨⟨pe, ke, e4, _⟩, ⟨pi, ki, e5, _⟩, ⟨pp, kp, e6, _⟩⟩ := h.atW x hx
  clear h hx
  unfold waitsB
  obtain ⟨⟨N, ma, mi, T, es, is, ps⟩, ve, vi, vp, fi⟩ := x
  dsimp only at e4 e5 e6 hn hkey hhas
  subst e4 e5 e6
  dsimp only [PV.modV]
  generalize es.length = le at *
  generalize is.length = li at *
  generalize ps.length = lp at *
  generalize met.any (fun y => y == N) = t at *
  cases t
  all_goals
    go_enter Tryz.func142, Tryz.ntmps142
    go_wp2_with (first
      | (at_lookup; refine wpList_lookup_own_ok_int _ rfl _ _ 171 rfl 9 3 .i64 lawS Tryz.underlying171 Tryz.underlying3 (zeroI _) (n₀ + 1) n D rfl (hown.kept (World.grownBy_alloc _ _ none) (by simp)) _ _ rfl hkey ?_; intro c hat' hwc; clear hat' hwc))
    go_ret
    exact ⟨rfl, (Below.refl _ _).alloc (Nat.le_refl _) _⟩

set_option maxHeartbeats 2000000 in
theorem ordered21_any (m x : PV) (W : World) {n₀ n : Nat} {D : DataW Unit} {r : Value} {rs : List PV} {met : List ByteArray} (h : OrdAt W n₀ n D r rs met) (hm : m ∈ rs) (hx : x ∈ rs)
    (B3 : Nat) (l3 : B3 < W.heap.size) (h3 : CellsAt W B3 31 #[.string m.mod.name, .int .i64 m.mod.major, .int .i64 m.mod.minor, .string m.mod.text, m.ve, m.vi, m.vp]) :
    Calls Tryz.prog 145 #[x.modV, .pointer (some ⟨n₀ + 1 + 1 + 1, 0, none⟩), .pointer (some ⟨B3, 0, none⟩)] W fun e w' => e = .returned (.bool (waitsB met x.mod && asksM m.mod x.mod.name)) ∧ Below W.heap.size W w' := by
  have HW : Hid (∀ W', Below W.heap.size W W' → Calls Tryz.prog 142 #[x.modV, .pointer (some ⟨n₀ + 1 + 1, 0, none⟩)] W' fun e w' => e = .returned (.bool (waitsB met x.mod)) ∧ Below W'.heap.size W' w') := fun W' hb => ordered1_any x W' (h.below hb) hx
  have HA : Hid (∀ W', Below W.heap.size W W' → Calls Tryz.prog 99 #[m.modV, .string x.mod.name] W' fun e w' => e = .returned (.bool (asksM m.mod x.mod.name)) ∧ Below W'.heap.size W' w') := fun W' hb => asks_any m.mod m.modV x.mod.name W' ((((h.atW m hm).below hb).more hb.size).isMod)
  obtain ⟨⟨pe, ke, e4, _⟩, ⟨pi, ki, e5, _⟩, ⟨pp, kp, e6, _⟩⟩ := h.atW x hx
  obtain ⟨⟨ye, je, f4, _⟩, ⟨yi, ji, f5, _⟩, ⟨yp, jp, f6, _⟩⟩ := h.atW m hm
  have cw := h.cw
  have lw := h.lt
  clear h hx hm
  generalize waitsB met x.mod = t at *
  generalize asksM m.mod x.mod.name = u at *
  obtain ⟨⟨N, ma, mi, T, es, is, ps⟩, ve, vi, vp, fi⟩ := x
  obtain ⟨⟨N', ma', mi', T', es', is', ps'⟩, ve', vi', vp', fi'⟩ := m
  dsimp only at e4 e5 e6 f4 f5 f6 HA h3
  subst e4 e5 e6 f4 f5 f6
  dsimp only [PV.modV] at *
  generalize es.length = le at *
  generalize is.length = li at *
  generalize ps.length = lp at *
  generalize es'.length = le' at *
  generalize is'.length = li' at *
  generalize ps'.length = lp' at *
  have B1 : Hid (Below W.heap.size W (W.alloc (.cells #[.string N, .int .i64 ma, .int .i64 mi, .string T, .slice pe le ke, .slice pi li ki, .slice pp lp kp] 31))) := (Below.refl _ _).alloc (Nat.le_refl _) _
  have C1 : Hid (CellsAt (W.alloc (.cells #[.string N, .int .i64 ma, .int .i64 mi, .string T, .slice pe le ke, .slice pi li ki, .slice pp lp kp] 31)) W.heap.size 31 #[.string N, .int .i64 ma, .int .i64 mi, .string T, .slice pe le ke, .slice pi li ki, .slice pp lp kp]) := CellsAt.new _ _ _
  go_enter Tryz.func145, Tryz.ntmps145
  go_wp2_with fail
  refine (HW.out _ B1.out).mono ?_
  rintro e w2 ⟨rfl, b2⟩
  have B2 := B1.out.trans (b2.mono B1.out.size)
  have C2 := C1.out.below b2 (by simp)
  have D2 := h3.below B2 l3
  have l2 : W.heap.size < w2.heap.size := C2.lt
  have n0 := C2.cell 0
  have m0 := D2.cell 0
  have m1 := D2.cell 1
  have m2 := D2.cell 2
  have m3 := D2.cell 3
  have m4 := D2.cell 4
  have m5 := D2.cell 5
  have m6 := D2.cell 6
  simp at n0 m0 m1 m2 m3 m4 m5 m6
  clear HW B1 C1 b2 C2 D2 h3 cw
  cases t
  · clear HA
    go_wp2
    go_ret
    exact ⟨rfl, B2⟩
  · go_wp2_with fail
    refine (HA.out _ B2).mono ?_
    rintro e w3 ⟨rfl, b3⟩
    have B3 := B2.trans (b3.mono B2.size)
    clear HA b3 n0 m0 m1 m2 m3 m4 m5 m6
    go_wp2
    go_ret
    exact ⟨rfl, B3⟩

set_option maxHeartbeats 2000000 in
theorem ordered2_any (m : PV) (W : World) {n₀ n : Nat} {D : DataW Unit} {r : Value} {rs : List PV} {met : List ByteArray} (h : OrdAt W n₀ n D r rs met) (hm : m ∈ rs) :
    Calls Tryz.prog 143 #[m.modV, .pointer (some ⟨n₀ + 1 + 1 + 1, 0, none⟩), .pointer (some ⟨n₀, 0, none⟩)] W fun e w' => e = .returned (.bool (mayB (rs.map (·.mod)) met m.mod)) ∧ Below W.heap.size W w' := by
  have HW : Hid (∀ W', Below W.heap.size W W' → Calls Tryz.prog 142 #[m.modV, .pointer (some ⟨n₀ + 1 + 1, 0, none⟩)] W' fun e w' => e = .returned (.bool (waitsB met m.mod)) ∧ Below W'.heap.size W' w') := fun W' hb => ordered1_any m W' (h.below hb) hm
  have HA : Hid (∀ W' B3, Below W.heap.size W W' → CellsAt W' B3 31 #[.string m.mod.name, .int .i64 m.mod.major, .int .i64 m.mod.minor, .string m.mod.text, m.ve, m.vi, m.vp] → Calls Tryz.prog 144 #[r, .func (.func 145) #[] #[.pointer (some ⟨n₀ + 1 + 1 + 1, 0, none⟩), .pointer (some ⟨B3, 0, none⟩)]] W' fun e w' => e = .returned (.bool (rs.any fun x : PV => waitsB met x.mod && asksM m.mod x.mod.name)) ∧ Below W'.heap.size W' w') := fun W' B3 hb h3 =>
    anyMod_any rs r 145 (.pointer (some ⟨n₀ + 1 + 1 + 1, 0, none⟩)) (.pointer (some ⟨B3, 0, none⟩)) (fun w x => enters_of Tryz.func145 (by kernel_rfl) rfl _ w) _ W' ((h.below hb).rowW) (fun x hx W2 hb2 => ordered21_any m x W2 ((h.below hb).below hb2) hm hx B3 (Nat.lt_of_lt_of_le h3.lt hb2.size) (h3.below hb2 h3.lt))
  have hmay : mayB (rs.map (·.mod)) met m.mod = (waitsB met m.mod && !(rs.any fun x : PV => waitsB met x.mod && asksM m.mod x.mod.name)) := by
    unfold mayB
    rw [List.any_map]
    rfl
  rw [hmay]
  obtain ⟨⟨pe, ke, e4, _⟩, ⟨pi, ki, e5, _⟩, ⟨pp, kp, e6, _⟩⟩ := h.atW m hm
  have cw := h.cw
  have lw := h.lt
  have c0 := h.c0
  have l0 : n₀ < W.heap.size := by have := h.lt; omega
  obtain ⟨ra, rc, rfl, _, _⟩ := h.rowW
  clear h hm hmay
  generalize (rs.any fun x : PV => waitsB met x.mod && asksM m.mod x.mod.name) = u at *
  generalize waitsB met m.mod = t at *
  obtain ⟨⟨N, ma, mi, T, es, is, ps⟩, ve, vi, vp, fi⟩ := m
  dsimp only at e4 e5 e6 HA
  subst e4 e5 e6
  dsimp only [PV.modV] at *
  generalize es.length = le at *
  generalize is.length = li at *
  generalize ps.length = lp at *
  generalize rs.length = lr at *
  have B1 : Hid (Below W.heap.size W (W.alloc (.cells #[.string N, .int .i64 ma, .int .i64 mi, .string T, .slice pe le ke, .slice pi li ki, .slice pp lp kp] 31))) := (Below.refl _ _).alloc (Nat.le_refl _) _
  have C1 : Hid (CellsAt (W.alloc (.cells #[.string N, .int .i64 ma, .int .i64 mi, .string T, .slice pe le ke, .slice pi li ki, .slice pp lp kp] 31)) W.heap.size 31 #[.string N, .int .i64 ma, .int .i64 mi, .string T, .slice pe le ke, .slice pi li ki, .slice pp lp kp]) := CellsAt.new _ _ _
  go_enter Tryz.func143, Tryz.ntmps143
  go_wp2_with fail
  refine (HW.out _ B1.out).mono ?_
  rintro e w2 ⟨rfl, b2⟩
  have B2 := B1.out.trans (b2.mono B1.out.size)
  have C2 := C1.out.below b2 (by simp)
  have l2 : W.heap.size < w2.heap.size := C2.lt
  have c02 := (B2.cell (p := ⟨n₀, 0, none⟩) l0).trans c0
  have HC2 : Hid (CellsAt w2 W.heap.size 31 #[.string N, .int .i64 ma, .int .i64 mi, .string T, .slice pe le ke, .slice pi li ki, .slice pp lp kp]) := C2
  clear HW B1 C1 b2 C2 cw c0
  cases t
  · clear HA HC2
    go_wp2
    go_ret
    exact ⟨rfl, B2⟩
  · go_wp2_with fail
    refine (HA.out _ _ B2 HC2.out).mono ?_
    rintro e w3 ⟨rfl, b3⟩
    have B3 := B2.trans (b3.mono B2.size)
    clear HA b3
    go_wp2
    go_ret
    exact ⟨rfl, B3⟩

end Go.Proofs.YtlpnfbpgnfappaaGreat

/- The contract of graph.ordered. -/
namespace Go.Proofs.YtlpnfbpgnfappaaGreat
open Go.RowKit Go.PlainAid Go.Maps Go.WideMaps

set_option maxRecDepth 100000

def ordRes (Rs : List Mod) : List ByteArray × Int := match orderFrom Rs Rs.length [] with | none => ([], 4) | some c => (c, 0)
theorem ordRes_none {Rs : List Mod} (h : orderFrom Rs Rs.length [] = none) : ordRes Rs = ([], 4) := by unfold ordRes; rw [h]
theorem ordRes_some {Rs : List Mod} {c : List ByteArray} (h : orderFrom Rs Rs.length [] = some c) : ordRes Rs = (c, 0) := by unfold ordRes; rw [h]

def CapOk (v : Value) : Prop := ∀ a n c, v = .slice a n c → n ≤ c ∧ c ≤ 9223372036854775807
theorem capNil : CapOk (.slice none 0 0) := fun a n c h => by
  injection h with _ h2 h3
  omega
theorem own_cap {W : World} {base : Nat} {e : TypeId} {size : Nat} {v : Value} {n : Nat} {xs : List Value} (h : W.ownsRow base e size v n xs) : CapOk v := by
  rcases h.2 with ⟨rfl, _⟩ | ⟨g, cap, cur, rfl, _, _, hcap, hm, _⟩
  · exact capNil
  · intro a m c he
    injection he with _ h2 h3
    unfold maxLen at hm
    omega

theorem infoStr : (Tryz.prog.info? 9).map (fun i => (i.zero, i.size, i.bytes)) = some (some (.string ⟨#[]⟩), 1, 16) := by kernel_rfl
theorem infoStr_parts : ∃ i, Tryz.prog.info? 9 = some i ∧ i.zero = some (.string ⟨#[]⟩) ∧ i.size = 1 ∧ i.bytes = 16 := by
  have h := infoStr
  cases hi : Tryz.prog.info? 9 with
  | none => rw [hi] at h; cases h
  | some i =>
    rw [hi] at h
    simp at h
    exact ⟨i, rfl, h.1, h.2.1, h.2.2⟩

theorem OrdAt.start (rs : List PV) (r : Value) (w : World) (hrow : RowOf 7 PV.cell w.heap.size w r rs) (hat : ∀ x ∈ rs, PlcAt w.heap.size w x) (hfit : ∀ x ∈ rs, x.mod.fits) :
    OrdAt ((((w.alloc (.cells #[r] 126)).alloc (.map #[] 0)).alloc (.cells #[.map (some (w.heap.size + 1))] 171)).alloc (.cells #[.func (.func 142) #[] #[.pointer (some ⟨w.heap.size + 1 + 1, 0, none⟩)]] 149)) w.heap.size 0 (.map []) r rs [] ∧
    Below w.heap.size w ((((w.alloc (.cells #[r] 126)).alloc (.map #[] 0)).alloc (.cells #[.map (some (w.heap.size + 1))] 171)).alloc (.cells #[.func (.func 142) #[] #[.pointer (some ⟨w.heap.size + 1 + 1, 0, none⟩)]] 149)) := by
  have hB : Below w.heap.size w ((((w.alloc (.cells #[r] 126)).alloc (.map #[] 0)).alloc (.cells #[.map (some (w.heap.size + 1))] 171)).alloc (.cells #[.func (.func 142) #[] #[.pointer (some ⟨w.heap.size + 1 + 1, 0, none⟩)]] 149)) := ((((Below.refl _ _).alloc (Nat.le_refl _) _).alloc (by simp) _).alloc (by simp; omega) _).alloc (by simp; omega) _
  have k0 := ((((CellsAt.new w 126 #[r]).kept (World.grownBy_alloc _ (.map #[] 0) none) (by simp)).kept (World.grownBy_alloc _ (.cells #[.map (some (w.heap.size + 1))] 171) none) (by simp)).kept (World.grownBy_alloc _ (.cells #[.func (.func 142) #[] #[.pointer (some ⟨w.heap.size + 1 + 1, 0, none⟩)]] 149) none) (by simp)).cell 0
  have k1 := (((World.ownsMap_made (w.alloc (.cells #[r] 126)) Tryz.prog 9 (plainElem (H := Unit) Tryz.prog 3)).kept (World.grownBy_alloc _ (.cells #[.map (some (w.heap.size + 1))] 171) none) (by simp)).kept (World.grownBy_alloc _ (.cells #[.func (.func 142) #[] #[.pointer (some ⟨w.heap.size + 1 + 1, 0, none⟩)]] 149) none) (by simp))
  have k2 := ((CellsAt.new ((w.alloc (.cells #[r] 126)).alloc (.map #[] 0)) 171 #[.map (some (w.heap.size + 1))]).kept (World.grownBy_alloc _ (.cells #[.func (.func 142) #[] #[.pointer (some ⟨w.heap.size + 1 + 1, 0, none⟩)]] 149) none) (by simp)).cell 0
  have k3 := (CellsAt.new (((w.alloc (.cells #[r] 126)).alloc (.map #[] 0)).alloc (.cells #[.map (some (w.heap.size + 1))] 171)) 149 #[.func (.func 142) #[] #[.pointer (some ⟨w.heap.size + 1 + 1, 0, none⟩)]]).cell 0
  simp only [World.size_alloc] at k0 k1 k2 k3
  exact ⟨⟨by simp, k0, k1, k2, k3, HasNames.none, hrow.below hB, fun x hx => (hat x hx).below hB, hfit⟩, hB⟩

set_option maxHeartbeats 4000000 in
theorem ordered_own (rs : List PV) (r : Value) (w : World) (hrow : RowOf 7 PV.cell w.heap.size w r rs) (hat : ∀ x ∈ rs, PlcAt w.heap.size w x) (hfit : ∀ x ∈ rs, x.mod.fits) (h8 : rs.length ≤ 8) :
    Calls Tryz.prog 89 #[r] w fun e w' => (∃ v, e = .returned (.tuple #[v, .int .i64 (ordRes (rs.map (·.mod))).2]) ∧ RowOf 1 strCell w'.heap.size w' v (ordRes (rs.map (·.mod))).1 ∧ CapOk v ∧ w'.ownsRow w.heap.size 9 1 v (ordRes (rs.map (·.mod))).1.length ((ordRes (rs.map (·.mod))).1.flatMap strC)) ∧ Below w.heap.size w w' := by
  have HS := OrdAt.start rs r w hrow hat hfit
  have HSH : Hid (OrdAt ((((w.alloc (.cells #[r] 126)).alloc (.map #[] 0)).alloc (.cells #[.map (some (w.heap.size + 1))] 171)).alloc (.cells #[.func (.func 142) #[] #[.pointer (some ⟨w.heap.size + 1 + 1, 0, none⟩)]] 149)) w.heap.size 0 (.map []) r rs []) := HS.1
  have HSB : Hid (Below w.heap.size w ((((w.alloc (.cells #[r] 126)).alloc (.map #[] 0)).alloc (.cells #[.map (some (w.heap.size + 1))] 171)).alloc (.cells #[.func (.func 142) #[] #[.pointer (some ⟨w.heap.size + 1 + 1, 0, none⟩)]] 149))) := HS.2
  have HN : Hid (orderFrom (rs.map (·.mod)) rs.length [] = none → ordRes (rs.map (·.mod)) = ([], 4)) := fun h => ordRes_none (by rw [List.length_map]; exact h)
  have HY : Hid (∀ c, orderFrom (rs.map (·.mod)) rs.length [] = some c → ordRes (rs.map (·.mod)) = (c, 0)) := fun c h => ordRes_some (by rw [List.length_map]; exact h)
  have HST : Hid (∀ n met, orderFrom (rs.map (·.mod)) (n + 1) met = match (rs.map (·.mod)).find? (mayB (rs.map (·.mod)) met) with | none => none | some m => orderFrom (rs.map (·.mod)) n (met ++ [m.name])) := fun n met => rfl
  have HS0 : Hid (∀ met, orderFrom (rs.map (·.mod)) 0 met = some met) := fun met => rfl
  clear HS hat hfit
  generalize ordRes (rs.map (·.mod)) = OR at *
  obtain ⟨ra, rc, rfl, hm, hcells⟩ := hrow
  have hmm := @run_makeMap Tryz.prog
  obtain ⟨ii, hii, hz0, hz1, hz2⟩ := infoStr_parts
  go_enter Tryz.func89, Tryz.ntmps89
  go_wp2_with fail
  go_loopw [7, 14] (fun f i wr => ∃ (k : Nat) (met : List ByteArray) (D : DataW Unit), k ≤ rs.length ∧ i = .int .i64 k ∧ Hid (met.length = k ∧ orderFrom (rs.map (·.mod)) rs.length [] = orderFrom (rs.map (·.mod)) (rs.length - k) met) ∧ OrdAt wr w.heap.size k D (.slice ra rs.length rc) rs met ∧ wr.ownsRow (w.heap.size + 4) 9 1 f k (met.flatMap strC) ∧ Below w.heap.size w wr) (fun _ i _ => rs.length - (intOf i).toNat)
  case atStart => exact ⟨0, [], .map [], Nat.zero_le _, rfl, ⟨rfl, rfl⟩, HSH.out, ⟨rfl, .inl ⟨rfl, rfl⟩⟩, HSB.out⟩
  case round =>
    obtain ⟨k, met, D, hk, rfl, HM, hO, hown, B⟩ := hrel
    clear HSH HSB
    have c0 := hO.c0
    have l0 : w.heap.size < wr.heap.size := by have := hO.lt; omega
    have HO : Hid (OrdAt wr w.heap.size k D (.slice ra rs.length rc) rs met) := hO
    clear hO
    obtain ⟨av, kv, rfl⟩ := own_form hown
    by_cases hlt : k < rs.length
    · have HIX : Hid (Calls Tryz.prog 146 #[.slice ra rs.length rc, .func (.func 143) #[] #[.pointer (some ⟨w.heap.size + 1 + 1 + 1, 0, none⟩), .pointer (some ⟨w.heap.size, 0, none⟩)]] wr fun e w' => e = .returned (.int .i64 (ixFrom (fun x : PV => mayB (rs.map (·.mod)) met x.mod) 0 rs)) ∧ Below wr.heap.size wr w') :=
        ixMod_any rs _ 143 _ _ (fun w x => enters_of Tryz.func143 (by kernel_rfl) rfl _ w) _ wr HO.out.rowW (fun x hx W' hb' => ordered2_any x W' (HO.out.below hb') hx)
      have hix := ix_find (fun x : PV => mayB (rs.map (·.mod)) met x.mod) rs 0
      generalize hixv : ixFrom (fun x : PV => mayB (rs.map (·.mod)) met x.mod) 0 rs = ix at *
      clear hcells
      go_wp2_with fail
      refine HIX.out.mono ?_
      rintro e w2 ⟨rfl, b2⟩
      have HO2 : Hid (OrdAt w2 w.heap.size k D (.slice ra rs.length rc) rs met) := HO.out.below b2
      have own2 := own_below hown b2
      have B2 := B.trans (b2.mono B.size)
      clear HIX HO hown b2 c0 l0
      clear hixv
      rcases hix with ⟨h1, rfl⟩ | ⟨j, x, h1, h2, h3⟩
      · have HE : Hid (OR = ([], 4)) := HN.out (by
          rw [HM.out.2, show rs.length - k = (rs.length - k - 1) + 1 by omega, HST.out, List.find?_map, show ((mayB (rs.map (·.mod)) met) ∘ fun x : PV => x.mod) = fun x : PV => mayB (rs.map (·.mod)) met x.mod from rfl, h1]
          rfl)
        clear h1
        go_wp2
        go_ret2
        exact ⟨⟨_, by rw [HE.out]; rfl, by rw [HE.out]; exact ⟨none, 0, rfl, by simp, .inl rfl⟩, capNil, by rw [HE.out]; exact World.ownsRow_nil _ _ _ _⟩, B2⟩
      · have HE : Hid (orderFrom (rs.map (·.mod)) rs.length [] = orderFrom (rs.map (·.mod)) (rs.length - (k + 1)) (met ++ [x.mod.name])) := by
          show orderFrom (rs.map (·.mod)) rs.length [] = _
          rw [HM.out.2, show rs.length - k = (rs.length - (k + 1)) + 1 by omega, HST.out, List.find?_map, show ((mayB (rs.map (·.mod)) met) ∘ fun x : PV => x.mod) = fun x : PV => mayB (rs.map (·.mod)) met x.mod from rfl, h1]
          rfl
        rw [Nat.zero_add] at h3
        subst h3
        have hj : j < rs.length := (List.getElem?_eq_some_iff.1 h2).1
        have hO2 := HO2.out
        obtain ⟨ra', rc', ee, _, hcl⟩ := hO2.row
        injection ee with e1 e2 e3
        subst e1 e3
        rcases hcl with h | ⟨b, off, rfl, hbn, hcells⟩
        · subst h; simp at hj
        have cn := hcells j x h2 0 (by omega)
        dsimp only [PV.cell] at cn
        have hn : x.mod.name.size ≤ 9223372036854775807 := (hO2.fit x (List.mem_of_getElem? h2)).1
        have hkey : keyOf Tryz.prog 9 (.string x.mod.name) = some (.string x.mod.name.data.toList) := keyOf_string_mk Tryz.underlying9 hn
        have cm := hO2.cm
        have c0 := hO2.c0
        have lm : w.heap.size + 1 + 1 < w2.heap.size := by have := hO2.lt; omega
        have l0 : w.heap.size < w2.heap.size := by have := hO2.lt; omega
        have hbn2 : b < w2.heap.size := by omega
        have hown := hO2.own
        have HML : Hid (met.length = k) := HM.out.1
        clear hcells h1 h2 hO2 HM HST HN e2 hmm
        obtain ⟨⟨N, ma, mi, T, es, is, ps⟩, ve, vi, vp, fi⟩ := x
        dsimp only at cn hn hkey HE
        rw [Nat.add_zero] at cn
        go_wp2_with fail
        refine wp_region_noPanic ?_
        refine wp_region_L (S := fun w' => w'.cell? ⟨w.heap.size + 1 + 1, 0, none⟩ = some (.map (some (w.heap.size + 1))) ∧ w'.cell? ⟨w.heap.size, 0, none⟩ = some (.slice (some ⟨b, off, none⟩) rs.length rc) ∧ w'.cell? ⟨b, off + j * 7, none⟩ = some (.string N)) (x := 7) (by kernel_rfl) ?_
        have hS0 : w2.drew.cell? ⟨w.heap.size + 1 + 1, 0, none⟩ = some (.map (some (w.heap.size + 1))) ∧ w2.drew.cell? ⟨w.heap.size, 0, none⟩ = some (.slice (some ⟨b, off, none⟩) rs.length rc) ∧ w2.drew.cell? ⟨b, off + j * 7, none⟩ = some (.string N) := ⟨cm, c0, cn⟩
        refine wpL_take 0 21 (.map (some (w.heap.size + 1))) rfl (by kernel_rfl) (fun _ _ _ h => h) hS0 rfl rfl (fun w' hSw => by (try dsimp only at hSw); go_simp) ?_
        simp only [List.setIfInBounds_toArray, List.set_cons_zero, List.set_cons_succ]
        refine wpL_take 1 22 (.slice (some ⟨b, off, none⟩) rs.length rc) rfl (by kernel_rfl) (fun _ _ _ h => h) hS0 rfl rfl (fun w' hSw => by (try dsimp only at hSw); go_simp) ?_
        simp only [List.setIfInBounds_toArray, List.set_cons_zero, List.set_cons_succ]
        refine wpL_take 2 23 (.int .i64 j) rfl (by kernel_rfl) (fun _ _ _ h => h) hS0 rfl rfl (fun w' hSw => by (try dsimp only at hSw); go_simp) ?_
        simp only [List.setIfInBounds_toArray, List.set_cons_zero, List.set_cons_succ]
        refine wpL_take 3 24 (.pointer (some ⟨b, off + j * 7, none⟩)) rfl (by kernel_rfl) (fun _ _ _ h => h) hS0 rfl rfl (fun w' hSw => by (try dsimp only at hSw); go_simp) ?_
        simp only [List.setIfInBounds_toArray, List.set_cons_zero, List.set_cons_succ]
        refine wpL_take 4 25 (.pointer (some ⟨b, off + j * 7, none⟩)) rfl (by kernel_rfl) (fun _ _ _ h => h) hS0 rfl rfl (fun w' hSw => by (try dsimp only at hSw); go_simp) ?_
        simp only [List.setIfInBounds_toArray, List.set_cons_zero, List.set_cons_succ]
        refine wpL_take 5 26 (.string N) rfl (by kernel_rfl) (fun _ _ _ h => h) hS0 rfl rfl (fun w' hSw => by (try dsimp only at hSw); go_simp) ?_
        simp only [List.setIfInBounds_toArray, List.set_cons_zero, List.set_cons_succ]
        refine wpL_take 6 27 (.int .i64 j) rfl (by kernel_rfl) (fun _ _ _ h => h) hS0 rfl rfl (fun w' hSw => by (try dsimp only at hSw); go_simp) ?_
        simp only [List.setIfInBounds_toArray, List.set_cons_zero, List.set_cons_succ]
        refine wpL_last (x := 7) rfl (by kernel_rfl) (by kernel_rfl) (fun K hK => ?_)
        obtain ⟨w3, hrun, hown3, hg3⟩ := hown.drew.update lawS Tryz.underlying171 (by unfold maxLen; omega) hkey (plainElem_int Tryz.underlying3 (WalkArith.wf_i64 (n := (j : Int)) (by omega)))
        go_simp
        refine hK.out _ _ ?_
        refine NoPanic.normal ?_
        have hOd : OrdAt w2.drew w.heap.size k D (.slice (some ⟨b, off, none⟩) rs.length rc) rs met := HO2.out.below ((Below.refl _ _).drew)
        have HO3 : Hid (OrdAt w3 w.heap.size (k + 1) (D.put (.string N.data.toList) (.lit (.int .i64 j))) (.slice (some ⟨b, off, none⟩) rs.length rc) rs (met ++ [N])) := hOd.put hg3 hown3 (HO2.out.has.put HO2.out.own.isMap N _)
        have c03 := HO3.out.c0
        have l03 : w.heap.size < w3.heap.size := by have := HO3.out.lt; omega
        have BB : Below w.heap.size w2 w3 := ((Below.refl _ _).drew).grown hg3 (by show w.heap.size ≤ w2.heap.size; omega) (fun i hi => by injection hi with hi; omega)
        have cn3 := (BB.cell (p := ⟨b, off + j * 7, none⟩) hbn).trans cn
        have B3 := B2.trans BB
        have own3 := own2.drew.kept hg3 (.inr (fun e => by have := own_block own2 _ e; omega))
        have HSZ : Hid (w.heap.size + 1 + 1 + 1 < w3.heap.size) := HO3.out.lt
        have HB3 : Hid (Below w.heap.size w w3) := B3
        clear hK K hS0 hrun hown3 hg3 hOd HO2 own2 B2 BB cm c0 cn lm l0 hown B B3 hkey
        generalize hacc : met.flatMap strC = acc at own3
        have HACC : Hid (met.flatMap strC = acc) := hacc
        clear hacc
        go_wp2_with (at_builtin; refine wpList_append_lies _ rfl _ _ _ rfl (w.heap.size + 4) 9 ii _ 1 16 Tryz.underlying67 hii hz0 hz1 hz2 rfl (by omega) (.slice av k kv) k acc rfl (own3.alloc _) ⟨w3.heap.size, 0, none⟩ 1 1 [.string N] rfl rfl (World.news_of_block (cs := #[.string N]) (t := 9) (fr := (0, 0)) (CellsAt.new w3 9 #[.string N])) (by simp [Value.oneCell']) (by omega) (by unfold maxLen; omega) (by omega) (by have := HSZ.out; simp; omega) (w3.heap.size + 1) (by simp) ?_; intro g gc w8 hown8 hgrow hat hltg)
        have B8 : Below (w.heap.size + 4) w3 w8 := ((Below.refl _ _).alloc (by have := HSZ.out; omega) _).grown hgrow (by have := HSZ.out; simp; omega) (fun i hi => own_block own3 i hi)
        exact ⟨⟨k + 1, met ++ [N], _, by omega, by go_num, ⟨by rw [List.length_append, HML.out]; rfl, HE.out⟩, HO3.out.keep B8 (by omega), by rw [List.flatMap_append, HACC.out]; exact hown8, HB3.out.trans (B8.mono (by omega))⟩, by simp [intOf]; omega⟩
    · obtain rfl : k = rs.length := by omega
      have HE : Hid (OR = (met, 0)) := HY.out met (by rw [HM.out.2, Nat.sub_self, HS0.out])
      have HL := HM.out.1
      go_wp2
      go_ret2
      refine ⟨⟨_, by rw [HE.out]; rfl, ?_, own_cap hown, by rw [HE.out]; show wr.ownsRow _ _ _ _ met.length (met.flatMap strC); rw [HL]; exact own_down hown (by omega)⟩, B⟩
      rw [HE.out]
      show RowOf 1 strCell wr.heap.size wr _ met
      rw [← HL] at hown ⊢
      exact own_rows (C := strC) (cells := strCell) (sz := 1) (fun _ => rfl) strC_at hown (by omega)

end Go.Proofs.YtlpnfbpgnfappaaGreat

/- The laying of slices.SortFunc at modules. -/
namespace Go.Proofs.YtlpnfbpgnfappaaGreat
open Go.Shelf

set_option maxRecDepth 100000

def sortFL_ren : Go.Shelf.Ren := ⟨fun | 6 => 147 | 15 => 175 | 14 => 174 | 28 => 198 | 29 => 199 | 20 => 190 | 21 => 191 | 22 => 192 | 23 => 193 | 24 => 194 | 25 => 195 | 26 => 196 | 27 => 197 | 46 => 215 | 47 => 216 | 48 => 217 | 49 => 218 | 50 => 219 | 57 => 235 | n => n, fun | 22 => 126 | 24 => 31 | 25 => 177 | 3 => 3 | 39 => 204 | 0 => 0 | 53 => 224 | 55 => 226 | 4 => 4 | 46 => 218 | 45 => 217 | 50 => 172 | 5 => 5 | 9 => 9 | 66 => 245 | 70 => 249 | 76 => 260 | 77 => 261 | n => n, fun | n => n⟩
theorem sortFL : Go.Proofs.SlLaysF0.n6 Tryz.prog sortFL_ren := {
  mixed := by kernel_rfl
  f6 := ⟨Tryz.f147.name, by decide, Tryz.func147.trans (congrArg some (by kernel_rfl))⟩
  f14 := ⟨Tryz.f174.name, by decide, Tryz.func174.trans (congrArg some (by kernel_rfl))⟩
  f15 := Tryz.func175.trans (congrArg some (by kernel_rfl))
  f20 := ⟨Tryz.f190.name, by decide, Tryz.func190.trans (congrArg some (by kernel_rfl))⟩
  f21 := ⟨Tryz.f191.name, by decide, Tryz.func191.trans (congrArg some (by kernel_rfl))⟩
  f22 := ⟨Tryz.f192.name, by decide, Tryz.func192.trans (congrArg some (by kernel_rfl))⟩
  f23 := ⟨Tryz.f193.name, by decide, Tryz.func193.trans (congrArg some (by kernel_rfl))⟩
  f24 := ⟨Tryz.f194.name, by decide, Tryz.func194.trans (congrArg some (by kernel_rfl))⟩
  f25 := ⟨Tryz.f195.name, by decide, Tryz.func195.trans (congrArg some (by kernel_rfl))⟩
  f26 := ⟨Tryz.f196.name, by decide, Tryz.func196.trans (congrArg some (by kernel_rfl))⟩
  f27 := ⟨Tryz.f197.name, by decide, Tryz.func197.trans (congrArg some (by kernel_rfl))⟩
  f28 := Tryz.func198.trans (congrArg some (by kernel_rfl))
  f29 := Tryz.func199.trans (congrArg some (by kernel_rfl))
  f46 := ⟨Tryz.f215.name, by decide, Tryz.func215.trans (congrArg some (by kernel_rfl))⟩
  f47 := Tryz.func216.trans (congrArg some (by kernel_rfl))
  f48 := Tryz.func217.trans (congrArg some (by kernel_rfl))
  f49 := ⟨Tryz.f218.name, by decide, Tryz.func218.trans (congrArg some (by kernel_rfl))⟩
  f50 := ⟨Tryz.f219.name, by decide, Tryz.func219.trans (congrArg some (by kernel_rfl))⟩
  f57 := ⟨Tryz.f235.name, by decide, Tryz.func235.trans (congrArg some (by kernel_rfl))⟩
  t0 := Tryz.underlying0
  a0 := Tryz.isAgg0
  z0 := Tryz.sizeOf0
  v0 := Tryz.zeroValue0
  t3 := Tryz.underlying3
  a3 := Tryz.isAgg3
  z3 := Tryz.sizeOf3
  v3 := Tryz.zeroValue3
  t4 := Tryz.underlying4
  a4 := Tryz.isAgg4
  z4 := Tryz.sizeOf4
  v4 := Tryz.zeroValue4
  t5 := Tryz.underlying5
  a5 := Tryz.isAgg5
  z5 := Tryz.sizeOf5
  v5 := Tryz.zeroValue5
  t9 := Tryz.underlying9
  a9 := Tryz.isAgg9
  z9 := Tryz.sizeOf9
  v9 := Tryz.zeroValue9
  t22 := Tryz.underlying126
  a22 := Tryz.isAgg126
  z22 := Tryz.sizeOf126
  v22 := Tryz.zeroValue126
  t25 := Tryz.underlying177
  a25 := Tryz.isAgg177
  z25 := Tryz.sizeOf177
  v25 := Tryz.zeroValue177
  t39 := Tryz.underlying204
  a39 := Tryz.isAgg204
  z39 := Tryz.sizeOf204
  v39 := Tryz.zeroValue204
  t45 := Tryz.underlying217
  a45 := Tryz.isAgg217
  z45 := Tryz.sizeOf217
  v45 := Tryz.zeroValue217
  t46 := Tryz.underlying218
  a46 := Tryz.isAgg218
  z46 := Tryz.sizeOf218
  v46 := Tryz.zeroValue218
  t50 := Tryz.underlying172
  a50 := Tryz.isAgg172
  z50 := Tryz.sizeOf172
  v50 := Tryz.zeroValue172
  t53 := Tryz.underlying224
  a53 := Tryz.isAgg224
  z53 := Tryz.sizeOf224
  v53 := Tryz.zeroValue224
  t55 := Tryz.underlying226
  a55 := Tryz.isAgg226
  z55 := Tryz.sizeOf226
  v55 := Tryz.zeroValue226
  t66 := Tryz.underlying245
  a66 := Tryz.isAgg245
  z66 := Tryz.sizeOf245
  v66 := Tryz.zeroValue245
  t70 := Tryz.underlying249
  a70 := Tryz.isAgg249
  z70 := Tryz.sizeOf249
  v70 := Tryz.zeroValue249
  t76 := Tryz.underlying260
  a76 := Tryz.isAgg260
  z76 := Tryz.sizeOf260
  v76 := Tryz.zeroValue260
  t77 := Tryz.underlying261
  a77 := Tryz.isAgg261
  z77 := Tryz.sizeOf261
  v77 := Tryz.zeroValue261 }

end Go.Proofs.YtlpnfbpgnfappaaGreat

/- slices.SortFunc at modules: strings.Compare, math/bits.Len, the function that is handed in, the sort itself. -/
namespace Go.Proofs.YtlpnfbpgnfappaaGreat
open Go.RowKit Go.PlainAid
open Go.Sort (grow alloc_eq_grow grow_grow putRow putRowK mapBlock)

set_option maxRecDepth 100000

theorem cmpB_neg : ∀ a b : List UInt8, Lib.compareBytes a b < 0 ↔ a < b
  | [], [] => by simp [Lib.compareBytes]
  | [], _ :: _ => by simp [Lib.compareBytes]
  | _ :: _, [] => by simp [Lib.compareBytes]
  | x :: a, y :: b => by
    unfold Lib.compareBytes
    rw [List.cons_lt_cons_iff]
    by_cases h : x < y
    · rw [if_pos h]
      exact ⟨fun _ => .inl h, fun _ => by decide⟩
    · rw [if_neg h]
      by_cases g : y < x
      · rw [if_pos g]
        constructor
        · intro h1; exact absurd h1 (by decide)
        · rintro (h1 | ⟨rfl, _⟩)
          · exact absurd h1 h
          · exact absurd g h
      · rw [if_neg g, cmpB_neg a b]
        have e : x = y := UInt8.le_antisymm (UInt8.not_lt.1 g) (UInt8.not_lt.1 h)
        constructor
        · exact fun h1 => .inr ⟨e, h1⟩
        · rintro (h1 | ⟨_, h1⟩)
          · exact absurd h1 h
          · exact h1

set_option maxHeartbeats 1000000 in
theorem compareString_any (a b : ByteArray) (w : World) :
    Calls Tryz.prog 176 #[.string a, .string b] w fun e w' => e = .returned (.int .i64 (Lib.compareBytes a.data.toList b.data.toList)) ∧ w' = w := by
  go_enter Tryz.func176, Tryz.ntmps176
  go_wp2
  rw [run_callFunc_extern Tryz.func200 (by kernel_rfl) (by kernel_rfl) (by kernel_rfl) (e := Extern.BytealgCompare.compare) (by kernel_rfl), Lib.run_compareString]
  simp only [Result.andThen]
  rw [Oper.upon_value]
  go_wp2
  go_ret
  exact ⟨rfl, rfl⟩

set_option maxHeartbeats 1000000 in
theorem compare_any (a b : ByteArray) (w : World) :
    Calls Tryz.prog 149 #[.string a, .string b] w fun e w' => e = .returned (.int .i64 (Lib.compareBytes a.data.toList b.data.toList)) ∧ w' = w := by
  have HC := compareString_any a b w
  generalize Lib.compareBytes a.data.toList b.data.toList = r at *
  go_enter Tryz.func149, Tryz.ntmps149
  go_wp2_with fail
  refine HC.mono ?_
  rintro e w2 ⟨rfl, rfl⟩
  clear HC
  go_wp2
  go_ret
  exact ⟨rfl, rfl⟩

set_option maxHeartbeats 4000000 in
theorem bitsLen_any (n : Nat) (W : World) (h : n ≤ 12) : Calls Tryz.prog 175 #[.int .u64 n] W fun e w' => (∃ l : Int, e = .returned (.int .i64 l)) ∧ w' = W := by
  have hn : n = 0 ∨ n = 1 ∨ n = 2 ∨ n = 3 ∨ n = 4 ∨ n = 5 ∨ n = 6 ∨ n = 7 ∨ n = 8 ∨ n = 9 ∨ n = 10 ∨ n = 11 ∨ n = 12 := by omega
  rcases hn with rfl | rfl | rfl | rfl | rfl | rfl | rfl | rfl | rfl | rfl | rfl | rfl | rfl
  all_goals
    go_enter Tryz.func175, Tryz.ntmps175
    go_wp2
    go_ret
    exact ⟨⟨_, rfl⟩, rfl⟩

/-- A slice's value; another one is none. -/
def slV : Value → Value
  | .slice a n c => .slice a n c
  | _ => .slice none 0 0
theorem slV_form (v : Value) : ∃ a n c, slV v = .slice a n c := by
  cases v <;> exact ⟨_, _, _, rfl⟩
def modE (x : PV) : List Value := [.string x.mod.name, .int .i64 x.mod.major, .int .i64 x.mod.minor, .string x.mod.text, slV x.ve, slV x.vi, slV x.vp]
theorem modE_one (x : PV) : ∀ v ∈ modE x, v.oneCell' = true := by
  intro v hv
  unfold modE at hv
  obtain ⟨a, n, c, h1⟩ := slV_form x.ve
  obtain ⟨a2, n2, c2, h2⟩ := slV_form x.vi
  obtain ⟨a3, n3, c3, h3⟩ := slV_form x.vp
  rw [h1, h2, h3] at hv
  simp at hv
  rcases hv with rfl | rfl | rfl | rfl | rfl | rfl | rfl <;> rfl
theorem modE_at {n₀ : Nat} {W : World} {x : PV} (h : PlcAt n₀ W x) (i : Nat) (hi : i < 7) : (modE x)[i]? = some (PV.cell x i) := by
  obtain ⟨⟨pe, ke, e4, _⟩, ⟨pi, ki, e5, _⟩, ⟨pp, kp, e6, _⟩⟩ := h
  have : i = 0 ∨ i = 1 ∨ i = 2 ∨ i = 3 ∨ i = 4 ∨ i = 5 ∨ i = 6 := by omega
  unfold modE
  rw [e4, e5, e6]
  rcases this with rfl | rfl | rfl | rfl | rfl | rfl | rfl <;> first | rfl | exact congrArg some e4.symm | exact congrArg some e5.symm | exact congrArg some e6.symm

set_option maxHeartbeats 2000000 in
theorem rising1_any (x y : PV) (W : World) : Calls Tryz.prog 148 #[.agg (modE x).toArray, .agg (modE y).toArray] W fun e w' => e = .returned (.int .i64 (Lib.compareBytes x.mod.name.data.toList y.mod.name.data.toList)) ∧ ∃ q os', w' = grow (W.drewN q) os' := by
  obtain ⟨a1, n1, c1, h1⟩ := slV_form x.ve
  obtain ⟨a2, n2, c2, h2⟩ := slV_form x.vi
  obtain ⟨a3, n3, c3, h3⟩ := slV_form x.vp
  obtain ⟨a4, n4, c4, h4⟩ := slV_form y.ve
  obtain ⟨a5, n5, c5, h5⟩ := slV_form y.vi
  obtain ⟨a6, n6, c6, h6⟩ := slV_form y.vp
  unfold modE
  rw [h1, h2, h3, h4, h5, h6]
  clear h1 h2 h3 h4 h5 h6
  obtain ⟨⟨N, ma, mi, T, es, is, ps⟩, ve, vi, vp, fi⟩ := x
  obtain ⟨⟨N', ma', mi', T', es', is', ps'⟩, ve', vi', vp', fi'⟩ := y
  dsimp only
  have HC : Hid (∀ W, Calls Tryz.prog 149 #[.string N, .string N'] W fun e w' => e = .returned (.int .i64 (Lib.compareBytes N.data.toList N'.data.toList)) ∧ w' = W) := fun W => compare_any N N' W
  generalize Lib.compareBytes N.data.toList N'.data.toList = r at *
  go_enter Tryz.func148, Tryz.ntmps148
  go_wp2_with fail
  refine (HC.out _).mono ?_
  rintro e w2 ⟨rfl, rfl⟩
  clear HC
  go_wp2
  go_ret
  exact ⟨rfl, 0, _, by rw [alloc_eq_grow, alloc_eq_grow, grow_grow]; rfl⟩

theorem cmp_swo : Go.Sort.SWO (ltOf fun x y : PV => Lib.compareBytes x.mod.name.data.toList y.mod.name.data.toList) := by
  have h : ∀ x y : PV, ltOf (fun x y : PV => Lib.compareBytes x.mod.name.data.toList y.mod.name.data.toList) x y = true ↔ x.mod.name.data.toList < y.mod.name.data.toList := fun x y => by
    unfold ltOf
    rw [decide_eq_true_iff, cmpB_neg]
  have hf : ∀ x y : PV, ltOf (fun x y : PV => Lib.compareBytes x.mod.name.data.toList y.mod.name.data.toList) x y = false ↔ ¬ x.mod.name.data.toList < y.mod.name.data.toList := fun x y => by
    rw [← h, Bool.not_eq_true]
  refine ⟨fun x => (hf x x).2 (List.lt_irrefl _), fun x y z h1 h2 => (h x z).2 (List.lt_trans ((h x y).1 h1) ((h y z).1 h2)), fun x y z h1 h2 => (hf x z).2 ?_⟩
  exact List.not_lt.2 (List.le_trans (List.not_lt.1 ((hf y z).1 h2)) (List.not_lt.1 ((hf x y).1 h1)))

theorem below_sortWorld {α : Type} [Inhabited α] (enc : α → List Value) (k : Nat) (w : World) (blk off m : Nat) (d : Array α) (os : Array Obj) (hb : blk < w.heap.size) : Below blk w (sortWorldK enc k w blk off m d os) := by
  unfold sortWorldK putRowK putRow mapBlock Go.Sort.ahead grow
  refine ⟨rfl, rfl, rfl, by simp, fun i hi => ?_⟩
  dsimp only
  rw [Array.getElem?_append_left (by rw [Array.size_modify]; omega), Array.getElem?_modify, if_neg (by omega)]

end Go.Proofs.YtlpnfbpgnfappaaGreat

/- The contract of graph.rising. -/
namespace Go.Proofs.YtlpnfbpgnfappaaGreat
open Go.RowKit Go.PlainAid

set_option maxRecDepth 100000

set_option maxHeartbeats 2000000 in
theorem insNone_any (p : Option Addr) (cap : Nat) (fv : Value) (w : World) :
    Calls Tryz.prog 190 #[.slice p 0 cap, .int .i64 0, .int .i64 0, fv] w fun e w' => e = .returned (.tuple #[]) ∧ w' = w := by
  go_enter Tryz.func190, Tryz.ntmps190
  go_wp2
  refine wp_loop_rounds 1 ?_
  rw [rounds_succ]
  go_wp2
  go_end0
  exact ⟨rfl, rfl⟩
set_option maxHeartbeats 2000000 in
theorem pdqNone_any (p : Option Addr) (cap : Nat) (lim : Int) (fv : Value) (w : World) :
    Calls Tryz.prog 174 #[.slice p 0 cap, .int .i64 0, .int .i64 0, .int .i64 lim, fv] w fun e w' => e = .returned (.tuple #[]) ∧ w' = w := by
  have hi := fun W => insNone_any p cap fv W
  go_enter Tryz.func174, Tryz.ntmps174
  go_wp2
  refine wp_loop_rounds 1 ?_
  rw [rounds_succ]
  go_wp2_with (go_at_call 190; refine (hi _).mono ?_; rintro e w' ⟨rfl, rfl⟩)
  (try simp only [Exit.inBlock, Exit.then]); refine bodyPost_ret (results_none rfl _ _ _) rfl ?_
  exact ⟨rfl, rfl⟩
set_option maxHeartbeats 2000000 in
theorem sortNone_any (p : Option Addr) (cap : Nat) (fv : Value) (w : World) :
    Calls Tryz.prog 147 #[.slice p 0 cap, fv] w fun e w' => e = .returned (.tuple #[]) ∧ w' = w := by
  have hi := fun lim W => pdqNone_any p cap lim fv W
  have hl := fun W => bitsLen_any 0 W (by omega)
  go_enter Tryz.func147, Tryz.ntmps147
  go_wp2_with (first | (go_at_call 175; refine (hl _).mono ?_; rintro e w' ⟨⟨q, rfl⟩, rfl⟩) | (go_at_call 174; refine (hi _ _).mono ?_; rintro e w' ⟨rfl, rfl⟩))
  go_end0
  exact ⟨rfl, rfl⟩

def pvZero : PV := ⟨⟨⟨#[]⟩, 0, 0, ⟨#[]⟩, [], [], []⟩, .slice none 0 0, .slice none 0 0, .slice none 0 0, 0⟩
def UpName (a b : PV) : Prop := ¬ b.mod.name.data.toList < a.mod.name.data.toList

theorem sortMods_any (l : List PV) (g cap : Nat) (w : World) (h8 : l.length ≤ 8) (hg : g < w.heap.size)
    (hc : ∀ (j : Nat) (x : PV), l[j]? = some x → ∀ i, i < 7 → w.cell? ⟨g, 0 + j * 7 + i, none⟩ = (modE x)[i]? ∧ w.frozen? ⟨g, 0 + j * 7 + i, none⟩ = false) :
    Calls Tryz.prog 147 #[.slice (some ⟨g, 0, none⟩) l.length cap, .func (.func 148) #[] #[]] w fun e w' => e = .returned (.tuple #[]) ∧ ∃ rs : List PV, rs.Perm l ∧ rs.Pairwise UpName ∧ Below g w w' ∧ ∀ (j : Nat) (x : PV), rs[j]? = some x → ∀ i, i < 7 → w'.cell? ⟨g, 0 + j * 7 + i, none⟩ = (modE x)[i]? := by
  have inh : Inhabited PV := ⟨pvZero⟩
  have hl7 : ∀ x : PV, (modE x).length = 7 := fun _ => rfl
  have at_ : ∀ (x : PV) (i : Nat), i < 7 → (modE x)[i]? = some (modE x)[i]! := fun x i hi => by
    rw [List.getElem?_eq_getElem (by rw [hl7]; exact hi), List.getElem!_eq_getElem?_getD, List.getElem?_eq_getElem (by rw [hl7]; exact hi)]
    rfl
  have arr : ∀ (a : Array PV) (j : Nat), j < a.size → a.toList[j]? = some a[j]! := fun a j hj => by
    rw [getElem!_pos a j hj, List.getElem?_eq_getElem (by simpa using hj)]
    simp
  have hH : Go.Sort.HoldsK modE 7 w g 0 l.toArray := by
    intro t ht
    rw [Go.Sort.size_flatK] at ht
    rw [Go.Sort.get_flatK _ _ _ _ ht]
    have hs : l.toArray.size = l.length := by simp
    have hq : t / 7 < l.length := by rw [hs] at ht; omega
    have hx := arr l.toArray (t / 7) (by rw [hs]; exact hq)
    rw [List.toList_toArray] at hx
    have h1 := hc (t / 7) _ hx (t % 7) (by omega)
    rw [show 0 + t / 7 * 7 + t % 7 = 0 + t by omega, at_ _ _ (by omega)] at h1
    exact h1
  have hcon := AnyQ.slices_SortFunc_small_sorted sortFL 7 Tryz.isAgg31 Tryz.sizeOf31 modE hl7 modE_one (fun x y => Lib.compareBytes x.mod.name.data.toList y.mod.name.data.toList) 148 #[] cmp_swo g 0 cap l.toArray w (enters_of Tryz.func148 (by kernel_rfl) rfl) (fun _ _ _ _ x y => rising1_any x y _) hH hg (by simp; omega) (fun n W hn => bitsLen_any n W hn)
  refine Calls.mono hcon ?_
  rintro e w' ⟨rfl, d', n, os, hp, hs, rfl⟩
  have hsz : d'.size = l.length := by rw [hp.1]; simp
  have hperm : d'.toList.Perm l := by
    have h1 := hp.2.2
    have e1 : l.toArray.size = d'.size := by rw [hsz]; simp
    rw [Array.extract_size, e1, Array.extract_size, List.toList_toArray] at h1
    exact h1
  refine ⟨rfl, d'.toList, hperm, ?_, below_sortWorld _ _ _ _ _ _ _ _ hg, ?_⟩
  · rw [List.pairwise_iff_getElem]
    intro i j hi hj hij
    have h1 := hs i j (Nat.zero_le _) hij (by simp at hj ⊢; omega)
    have hi' : i < d'.size := by simpa using hi
    have hj' : j < d'.size := by simpa using hj
    rw [getElem!_pos d' i hi', getElem!_pos d' j hj'] at h1
    unfold ltOf at h1
    rw [decide_eq_false_iff_not, cmpB_neg] at h1
    simp only [UpName, Array.getElem_toList]
    exact h1
  · intro j x hx i hi
    have hj : j < d'.size := by
      have := (List.getElem?_eq_some_iff.1 hx).1
      simpa using this
    have hx2 := arr d' j hj
    rw [hx] at hx2
    injection hx2 with hx2
    subst hx2
    rw [at_ _ _ hi]
    exact (Go.Sort.HoldsK.cell (holdsK_sortWorldK_c modE 7 w g 0 l.toArray d' n os hH hg (by rw [hsz]; simp)) hj hi).1

theorem infoMod : (Tryz.prog.info? 31).map (fun i => (i.zero, i.size, i.bytes)) = some (some (.agg #[.string ⟨#[]⟩, .int .i64 0, .int .i64 0, .string ⟨#[]⟩, .slice none 0 0, .slice none 0 0, .slice none 0 0]), 7, 120) := by kernel_rfl
theorem infoMod_parts : ∃ i, Tryz.prog.info? 31 = some i ∧ i.zero = some (.agg #[.string ⟨#[]⟩, .int .i64 0, .int .i64 0, .string ⟨#[]⟩, .slice none 0 0, .slice none 0 0, .slice none 0 0]) ∧ i.size = 7 ∧ i.bytes = 120 := by
  have h := infoMod
  cases hi : Tryz.prog.info? 31 with
  | none => rw [hi] at h; cases h
  | some i =>
    rw [hi] at h
    simp at h
    exact ⟨i, rfl, h.1, h.2.1, h.2.2⟩

end Go.Proofs.YtlpnfbpgnfappaaGreat

/- The contract of graph.rising. -/
namespace Go.Proofs.YtlpnfbpgnfappaaGreat
open Go.RowKit Go.PlainAid

set_option maxRecDepth 100000

theorem addr_add (g j : Nat) : (⟨g, 0, none⟩ : Addr).add j = ⟨g, j, none⟩ := by unfold Addr.add; split <;> simp_all

set_option maxHeartbeats 4000000 in
theorem rising_any (l : List PV) (v : Value) (w : World) (hrow : IsPlcs w.heap.size w v l) (h8 : l.length ≤ 8) :
    Calls Tryz.prog 90 #[v] w fun e w' => (∃ r rs, e = .returned r ∧ RowOf 7 PV.cell w'.heap.size w' r rs ∧ rs.Perm l ∧ rs.Pairwise UpName) ∧ Below w.heap.size w w' := by
  have hat := hrow.2
  obtain ⟨⟨a, cap, rfl, hmax, hrow⟩, _⟩ := hrow
  obtain ⟨ii, hii, hz0, hz1, hz2⟩ := infoMod_parts
  go_enter Tryz.func90, Tryz.ntmps90
  go_wp2_with fail
  go_loopw [3, 8] (fun f i wr => ∃ (k : Nat), k ≤ l.length ∧ i = .int .i64 k ∧ wr.ownsRow w.heap.size 31 7 f k ((l.take k).flatMap modE) ∧ Below w.heap.size w wr) (fun _ i _ => l.length - (intOf i).toNat)
  case atStart => exact ⟨0, Nat.zero_le _, rfl, ⟨rfl, .inl ⟨rfl, rfl⟩⟩, Below.refl _ _⟩
  case round =>
    obtain ⟨k, hk, rfl, hown, B⟩ := hrel
    by_cases hlt : k < l.length
    · obtain ⟨av, kv, rfl⟩ := own_form hown
      obtain ⟨x, hx⟩ : ∃ x, l[k]? = some x := ⟨_, List.getElem?_eq_getElem hlt⟩
      rcases hrow with h | ⟨b, off, rfl, hbn, hcells⟩
      · subst h; simp at hlt
      have htk : l.take (k + 1) = l.take k ++ [x] := by rw [List.take_add_one, hx]; rfl
      have HROW : Hid (∀ (W : World) (u : Value), W.ownsRow w.heap.size 31 7 u (k + 1) ((l.take k).flatMap modE ++ modE x) → W.ownsRow w.heap.size 31 7 u (k + 1) ((l.take (k + 1)).flatMap modE)) := fun W u h => by
        rw [htk, List.flatMap_append]
        simpa using h
      obtain ⟨⟨pe, ke, e4, _⟩, ⟨pi, ki, e5, _⟩, ⟨pp, kp, e6, _⟩⟩ := hat x (List.mem_of_getElem? hx)
      obtain ⟨⟨N, ma, mi, T, es, is, ps⟩, ve, vi, vp, fi⟩ := x
      dsimp only at e4 e5 e6
      subst e4 e5 e6
      have c0 := (B.cell (p := ⟨b, off + k * 8 + 0, none⟩) hbn).trans (hcells k _ hx 0 (by omega))
      have c1 := (B.cell (p := ⟨b, off + k * 8 + 1, none⟩) hbn).trans (hcells k _ hx 1 (by omega))
      have c2 := (B.cell (p := ⟨b, off + k * 8 + 2, none⟩) hbn).trans (hcells k _ hx 2 (by omega))
      have c3 := (B.cell (p := ⟨b, off + k * 8 + 3, none⟩) hbn).trans (hcells k _ hx 3 (by omega))
      have c4 := (B.cell (p := ⟨b, off + k * 8 + 4, none⟩) hbn).trans (hcells k _ hx 4 (by omega))
      have c5 := (B.cell (p := ⟨b, off + k * 8 + 5, none⟩) hbn).trans (hcells k _ hx 5 (by omega))
      have c6 := (B.cell (p := ⟨b, off + k * 8 + 6, none⟩) hbn).trans (hcells k _ hx 6 (by omega))
      have c7 := (B.cell (p := ⟨b, off + k * 8 + 7, none⟩) hbn).trans (hcells k _ hx 7 (by omega))
      dsimp only [PV.cell] at c0 c1 c2 c3 c4 c5 c6 c7
      rw [Nat.add_zero] at c0
      dsimp only [modE, slV] at HROW
      clear hcells hx hat htk
      generalize es.length = le at *
      generalize is.length = li at *
      generalize ps.length = lp at *
      generalize (l.take k).flatMap modE = acc at *
      have O7 := hown.alloc (.cells #[.string N, .int .i64 ma, .int .i64 mi, .string T, .slice pe le ke, .slice pi li ki, .slice pp lp kp, .int .i64 fi] 57)
      have B7 := B.alloc B.size (.cells #[.string N, .int .i64 ma, .int .i64 mi, .string T, .slice pe le ke, .slice pi li ki, .slice pp lp kp, .int .i64 fi] 57)
      have HB7 : Hid (Below w.heap.size w (wr.alloc (.cells #[.string N, .int .i64 ma, .int .i64 mi, .string T, .slice pe le ke, .slice pi li ki, .slice pp lp kp, .int .i64 fi] 57))) := B7
      have HSZ : Hid (w.heap.size ≤ wr.heap.size) := B.size
      clear hown B7
      go_wp2_with (at_builtin; refine wpList_append_lies _ rfl _ _ _ rfl w.heap.size 31 ii _ 7 120 Tryz.underlying126 hii hz0 hz1 hz2 rfl (by omega) (.slice av k kv) k acc rfl (O7.alloc _) ⟨wr.heap.size + 1, 0, none⟩ 1 1 [.string N, .int .i64 ma, .int .i64 mi, .string T, .slice pe le ke, .slice pi li ki, .slice pp lp kp] rfl rfl (World.news_of_block (cs := #[.string N, .int .i64 ma, .int .i64 mi, .string T, .slice pe le ke, .slice pi li ki, .slice pp lp kp]) (t := 31) (fr := (0, 0)) (by have := CellsAt.new (wr.alloc (.cells #[.string N, .int .i64 ma, .int .i64 mi, .string T, .slice pe le ke, .slice pi li ki, .slice pp lp kp, .int .i64 fi] 57)) 31 #[.string N, .int .i64 ma, .int .i64 mi, .string T, .slice pe le ke, .slice pi li ki, .slice pp lp kp]; rw [World.size_alloc] at this; exact this)) (by simp [Value.oneCell']) (by omega) (by unfold maxLen; omega) (by omega) (by have := HSZ.out; simp; omega) (wr.heap.size + 2) (by simp) ?_; intro g gc w8 hown8 hgrow hat hltg)
      have BB := HB7.out.alloc HB7.out.size (.cells #[.string N, .int .i64 ma, .int .i64 mi, .string T, .slice pe le ke, .slice pi li ki, .slice pp lp kp] 31)
      exact ⟨⟨k + 1, by omega, by go_num, HROW.out _ _ hown8, BB.grown hgrow BB.size (fun j hj => own_block O7 j hj)⟩, by simp [intOf]; omega⟩
    · obtain rfl : k = l.length := by omega
      rw [List.take_length] at hown
      have HO := hown
      clear hrow
      rcases hown.2 with ⟨rfl, hn⟩ | ⟨g, cap', cur, rfl, hg, hb, hcap, hm, hsz, htk⟩
      · obtain rfl : l = [] := List.length_eq_zero_iff.1 hn
        clear hown HO hat
        go_wp2_with (go_at_call 147; refine (sortNone_any _ _ _ _).mono ?_; rintro e w' ⟨rfl, rfl⟩)
        go_ret
        exact ⟨⟨_, [], rfl, ⟨none, 0, rfl, by simp, .inl rfl⟩, .nil, .nil⟩, B⟩
      · have hgl : g < wr.heap.size := (Array.getElem?_eq_some_iff.1 hb).1
        have HS : Hid (Calls Tryz.prog 147 #[.slice (some ⟨g, 0, none⟩) l.length cap', .func (.func 148) #[] #[]] wr fun e w' => e = .returned (.tuple #[]) ∧ ∃ rs : List PV, rs.Perm l ∧ rs.Pairwise UpName ∧ Below g wr w' ∧ ∀ (j : Nat) (x : PV), rs[j]? = some x → ∀ i, i < 7 → w'.cell? ⟨g, 0 + j * 7 + i, none⟩ = (modE x)[i]?) := by
          refine sortMods_any l g cap' wr h8 hgl (fun j x hj i hi => ⟨?_, CellsAt.frozen (t := 31) (cs := cur) hb _⟩)
          have h1 := flat_at (C := modE) (sz := 7) (fun _ => rfl) l j x i hj hi
          have h2 : (modE x)[i]? = some (modE x)[i]! := by
            rw [List.getElem?_eq_getElem (by show i < 7; exact hi), List.getElem!_eq_getElem?_getD, List.getElem?_eq_getElem (by show i < 7; exact hi)]
            rfl
          rw [h2] at h1 ⊢
          have := HO.cells (g := g) rfl (j * 7 + i) _ h1
          rw [addr_add] at this
          rw [Nat.zero_add]
          exact this
        have HSZ : Hid (w.heap.size ≤ g) := hg
        have HAT : Hid (∀ x ∈ l, PlcAt w.heap.size w x) := hat
        clear hb hcap hm hsz htk hown HO hat
        go_wp2_with fail
        refine HS.out.mono ?_
        rintro e w5 ⟨rfl, rs, hp, hup, b5, hcc⟩
        have HF : Hid (rs.Perm l ∧ rs.Pairwise UpName ∧ Below g wr w5 ∧ ∀ (j : Nat) (x : PV), rs[j]? = some x → ∀ i, i < 7 → w5.cell? ⟨g, 0 + j * 7 + i, none⟩ = (modE x)[i]?) := ⟨hp, hup, b5, hcc⟩
        clear hp hup b5 hcc HS
        go_wp2
        go_ret
        obtain ⟨hp, hup, b5, hcc⟩ := HF.out
        refine ⟨⟨_, rs, rfl, ⟨_, cap', by rw [hp.length_eq]; rfl, by rw [hp.length_eq]; omega, .inr ⟨g, 0, rfl, Nat.lt_of_lt_of_le hgl b5.size, fun j x hj i hi => ?_⟩⟩, hp, hup⟩, B.trans (b5.mono HSZ.out)⟩
        rw [hcc j x hj i hi]
        exact modE_at (HAT.out x (hp.mem_iff.1 (List.mem_of_getElem? hj))) i hi

end Go.Proofs.YtlpnfbpgnfappaaGreat
