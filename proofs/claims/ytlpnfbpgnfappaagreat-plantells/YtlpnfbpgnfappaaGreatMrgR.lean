/- Texts that are laid together. -/
import Derived.Test.YtlpnfbpgnfappaaGreatProg
import Derived.Deep.AppendLies
import Derived.Deep.Upon
import Derived.Test.YtlpnfbpgnfappaaGreatMrgO
import Derived.Test.YtlpnfbpgnfappaaGreatMrgQ
import Derived.Lib.QuietBelow
import Derived.Test.YtlpnfbpgnfappaaGreatMrgG
import Derived.Test.YtlpnfbpgnfappaaGreatMrgE
import Derived.Test.YtlpnfbpgnfappaaGreatMrgA

/- Appends that may append nothing. -/
namespace Go.Proofs.YtlpnfbpgnfappaaGreat

section
variable {P : Program} {ops : Array Oper} {Q : Exit → Act → World → Prop}
end

end Go.Proofs.YtlpnfbpgnfappaaGreat

/- The contract of the document's StepOf. -/
namespace Go.Proofs.YtlpnfbpgnfappaaGreat
open Go.RowKit Go.PlainAid Go.Lib

set_option maxRecDepth 100000

end Go.Proofs.YtlpnfbpgnfappaaGreat

/- The contract of the document's PackOf. -/
namespace Go.Proofs.YtlpnfbpgnfappaaGreat
open Go.RowKit Go.PlainAid Go.Lib

set_option maxRecDepth 100000

theorem reg_cells4 {W : World} {B : Nat} {t : TypeId} {x y : Int} {p q : Option Addr} {a b c d : Nat} (h : CellsAt W B t #[.int .i64 x, .int .i64 y, .slice p a b, .slice q c d]) (off : Nat) :
    (∀ s, W.cell? ⟨B, off, none⟩ ≠ some (.string s)) ∧ ∀ a b c, W.cell? ⟨B, off, none⟩ = some (.int .i64 a) → W.cell? ⟨B, off + 1, none⟩ = some (.int .i64 b) → W.cell? ⟨B, off + 2, none⟩ ≠ some (.int .i64 c) := by
  have c0 := h.cell off
  have c1 := h.cell (off + 1)
  have c2 := h.cell (off + 2)
  rw [c0, c1, c2]
  match off with
  | 0 => simp
  | 1 => simp
  | 2 => simp
  | 3 => simp
  | k + 4 => simp
theorem IsReg.apart4 {n : Nat} {W W' : World} {v : Value} {K : Ker} {l : List PV} (h : IsReg n W v K l) {B : Nat} {t : TypeId} (hg : W.grownBy W' (some B)) (hn : n ≤ W.heap.size) {x y : Int} {p q : Option Addr} {a b c d : Nat} (hB : CellsAt W B t #[.int .i64 x, .int .i64 y, .slice p a b, .slice q c d]) : IsReg n W' v K l := by
  obtain ⟨ve, vl, e, h1, h2, h3⟩ := h
  refine ⟨ve, vl, e, h1.apart hg hn ?_, h2.apart hg hn ?_, fun x hx => ?_⟩
  · intro off x _ hc
    exact (reg_cells4 hB off).1 _ (hc 0 (by omega))
  · intro off x _ hc
    exact (reg_cells4 hB off).1 _ (hc 0 (by omega))
  · obtain ⟨g1, g2, g3⟩ := h3 x hx
    refine ⟨g1.apart hg hn ?_, g2.apart hg hn ?_, g3.apart hg hn ?_⟩
    · intro off x _ hc
      exact (reg_cells4 hB off).1 _ (hc 0 (by omega))
    · intro off x _ hc
      exact (reg_cells4 hB off).1 _ (hc 0 (by omega))
    · intro off x _ hc
      exact (reg_cells4 hB off).2 _ _ _ (hc 0 (by omega)) (hc 1 (by omega)) (hc 2 (by omega))

end Go.Proofs.YtlpnfbpgnfappaaGreat

/- The contract of the document's AddressOf. -/
namespace Go.Proofs.YtlpnfbpgnfappaaGreat
open Go.RowKit Go.PlainAid

set_option maxRecDepth 100000

/-- An address, when what is meant is known. -/
theorem addrOf_tgt {K : Ker} {l : List Plc} {i : Imp} {t : Tgt} (h : tgtOf K l i.mod = some t) : (t.major ≠ i.major ∧ addrOf K l i = (0, 4)) ∨ (t.major = i.major ∧ t.minor < i.minor ∧ addrOf K l i = (0, 4)) ∨
    (t.major = i.major ∧ i.minor ≤ t.minor ∧ (expOf t.exps i.name = none ∧ addrOf K l i = (0, 5) ∨ ∃ x, expOf t.exps i.name = some x ∧ addrOf K l i = (t.beg + x.pos, 0))) := by
  rcases addrOf_cases K l i with ⟨h1, _⟩ | ⟨t', h1, h2⟩
  · rw [h] at h1; cases h1
  · rw [h] at h1
    rw [← Option.some.inj h1] at h2
    exact h2

set_option maxHeartbeats 4000000 in
theorem addressOf_any (K : Ker) (vk : Value) (l : List PV) (v : Value) (i : Imp) (w : World) (hK : IsKer w.heap.size w vk K) (hrow : IsPlcs w.heap.size w v l) (h0 : chkFind K (l.map PV.plc) = 0) :
    Calls Tryz.prog 182 #[vk, v, .agg #[.string i.mod, .string i.name, .int .i64 i.major, .int .i64 i.minor]] w fun e w' => e = .returned (.tuple #[.int .i64 (addrOf K (l.map PV.plc) i).1, .int .i64 (addrOf K (l.map PV.plc) i).2]) ∧ Below w.heap.size w w' := by
  have HX : Hid (∀ (es : List Exp) (ve : Value) W, Below w.heap.size w W → RowOf 2 Exp.cell w.heap.size w ve es → Calls Tryz.prog 204 #[ve, .string i.name] W fun e w' => e = .returned (.int .i64 (posOf (expOf es i.name))) ∧ Below W.heap.size W w') :=
    fun es ve W hb hr => exportAt_any es ve i.name W ((hr.below hb).more hb.size)
  have HP : Hid (∀ W, Below w.heap.size w W → Calls Tryz.prog 50 #[v, .string i.mod] W fun e w' => e = .returned (.int .i64 (idxFrom (fun x : PV => x.mod.name == i.mod) 0 l)) ∧ Below W.heap.size W w') :=
    fun W hb => placeOf_any l v i.mod W ((hrow.1.below hb).more hb.size)
  obtain ⟨vke, rfl, hE⟩ := hK
  have hE0 := hE
  obtain ⟨pe, ke, rfl, _, _⟩ := hE
  have hat := hrow.2
  obtain ⟨⟨a, cap, rfl, _, hrow⟩, _⟩ := hrow
  have hbd := fun t (ht : tgtOf K (l.map PV.plc) i.mod = some t) => tgt_bd h0 ht
  have hfst : ∀ x ∈ l, 0 ≤ x.first ∧ x.first ≤ 15 := fun x hx => by
    have := (chkFind_zero h0).2.2 x.plc (List.mem_map_of_mem hx)
    exact ⟨this.2.1, this.2.2⟩
  have hcase := tgt_cases K l i.mod
  have hidx := idx_find (fun x : PV => x.mod.name == i.mod) l 0
  have hnone : tgtOf K (l.map PV.plc) i.mod = none → addrOf K (l.map PV.plc) i = (0, 5) := fun h => by unfold addrOf; rw [h]
  have hsome := fun t (ht : tgtOf K (l.map PV.plc) i.mod = some t) => addrOf_tgt ht
  generalize addrOf K (l.map PV.plc) i = R at *
  generalize tgtOf K (l.map PV.plc) i.mod = TT at *
  generalize idxFrom (fun x : PV => x.mod.name == i.mod) 0 l = IX at *
  generalize hfd : l.find? (fun x : PV => x.mod.name == i.mod) = FD at *
  obtain ⟨ma, mi, es⟩ := K
  obtain ⟨im, inm, ia, ib⟩ := i
  dsimp only at *
  clear h0
  have HW2 : Hid (Below w.heap.size w ((w.alloc (.cells #[.int .i64 ma, .int .i64 mi, .slice pe es.length ke] 24)).alloc (.cells #[.string im, .string inm, .int .i64 ia, .int .i64 ib] 106))) := ((Below.refl _ _).alloc (Nat.le_refl _) _).alloc (by simp) _
  have HC2 : Hid (CellsAt ((w.alloc (.cells #[.int .i64 ma, .int .i64 mi, .slice pe es.length ke] 24)).alloc (.cells #[.string im, .string inm, .int .i64 ia, .int .i64 ib] 106)) (w.heap.size + 1) 106 #[.string im, .string inm, .int .i64 ia, .int .i64 ib]) := by
    have := CellsAt.new (w.alloc (.cells #[.int .i64 ma, .int .i64 mi, .slice pe es.length ke] 24)) 106 #[.string im, .string inm, .int .i64 ia, .int .i64 ib]
    rw [World.size_alloc] at this
    exact this
  rcases hcase with ⟨g1, rfl⟩ | ⟨g1, ⟨rfl, rfl⟩ | ⟨x, rfl, rfl⟩⟩
  · rw [← kern_form] at g1
    have HXE := fun W hb => HX.out es _ W hb hE0
    obtain ⟨q1, q2, q3, q4⟩ := hbd _ rfl
    have HXF : Hid (∀ W, Below w.heap.size w W → Calls Tryz.prog 204 #[.slice pe es.length ke, .string inm] W fun e w' => e = .returned (.int .i64 (posOf (expOf es inm))) ∧ Below W.heap.size W w') := HXE
    have key := hsome _ rfl
    dsimp only at key q1 q2 q3 q4
    rcases key with ⟨h1, rfl⟩ | ⟨rfl, h2, rfl⟩ | ⟨rfl, h2, ⟨h3, rfl⟩ | ⟨x, h3, rfl⟩⟩
    · have h1' : (ma != ia) = true := by simpa using h1
      clear HX HP HXE HXF hbd hsome hidx hnone
      go_enter Tryz.func182, Tryz.ntmps182
      go_wp2
      go_ret2
      exact ⟨rfl, HW2.out⟩
    · clear HX HP HXE HXF hbd hsome hidx hnone
      go_enter Tryz.func182, Tryz.ntmps182
      go_wp2
      go_ret2
      exact ⟨rfl, HW2.out⟩
    · rw [h3] at HXF
      dsimp only [posOf] at HXF
      clear HX HP HXE hbd hsome hidx hnone
      go_enter Tryz.func182, Tryz.ntmps182
      go_wp2_with fail
      refine (HXF.out _ HW2.out).mono ?_
      rintro _ w3 ⟨rfl, b3⟩
      go_wp2
      go_ret2
      exact ⟨rfl, HW2.out.trans (b3.mono HW2.out.size)⟩
    · rw [h3] at HXF
      dsimp only [posOf] at HXF
      obtain ⟨m1, m2, m3⟩ := q4 x (List.mem_of_find?_eq_some h3)
      clear HX HP HXE hbd hsome hidx hnone q4 h3
      go_enter Tryz.func182, Tryz.ntmps182
      go_wp2_with fail
      refine (HXF.out _ HW2.out).mono ?_
      rintro _ w3 ⟨rfl, b3⟩
      go_wp2
      go_ret2
      exact ⟨by rw [show 0 + x.pos = x.pos from by omega]; rfl, HW2.out.trans (b3.mono HW2.out.size)⟩
  · rw [← kern_form] at g1
    have hR := hnone rfl
    subst hR
    have hIX : IX = -1 := by
      rcases hidx with ⟨_, h⟩ | ⟨j, x, h, _⟩
      · exact h
      · cases h
    subst hIX
    clear HX hbd hsome hidx hnone
    go_enter Tryz.func182, Tryz.ntmps182
    go_wp2_with fail
    refine (HP.out _ HW2.out).mono ?_
    rintro _ w3 ⟨rfl, b3⟩
    go_wp2
    go_ret2
    exact ⟨rfl, HW2.out.trans (b3.mono HW2.out.size)⟩
  · rw [← kern_form] at g1
    obtain ⟨j, hj, hIX⟩ : ∃ j : Nat, l[j]? = some x ∧ IX = j := by
      rcases hidx with ⟨h, _⟩ | ⟨j, x', h, h2, h3⟩
      · cases h
      · rw [← Option.some.inj h] at h2
        exact ⟨j, h2, by simpa using h3⟩
    subst hIX
    obtain ⟨q1, q2, q3, q4⟩ := hbd _ rfl
    have hx := List.mem_of_getElem? hj
    obtain ⟨f1, f2⟩ := hfst x hx
    have hlt : j < l.length := (List.getElem?_eq_some_iff.1 hj).1
    rcases hrow with h | ⟨b, off, rfl, hbn, hcells⟩
    · subst h; simp at hlt
    have hXR := (hat x hx).1
    obtain ⟨⟨qe, je, e4, _⟩, ⟨qi, ji, e5, _⟩, ⟨qp, jp, e6, _⟩⟩ := hat x hx
    obtain ⟨⟨N, xa, xi, T, xs, is, ps⟩, ve, vi, vp, fi⟩ := x
    dsimp only at *
    subst e4 e5 e6
    have HXF : Hid (∀ W, Below w.heap.size w W → Calls Tryz.prog 204 #[.slice qe xs.length je, .string inm] W fun e w' => e = .returned (.int .i64 (posOf (expOf xs inm))) ∧ Below W.heap.size W w') := fun W hb => HX.out xs _ W hb hXR
    have c0 := hcells j _ hj 0 (by omega)
    have c1 := hcells j _ hj 1 (by omega)
    have c2 := hcells j _ hj 2 (by omega)
    have c3 := hcells j _ hj 3 (by omega)
    have c4 := hcells j _ hj 4 (by omega)
    have c5 := hcells j _ hj 5 (by omega)
    have c6 := hcells j _ hj 6 (by omega)
    have c7 := hcells j _ hj 7 (by omega)
    dsimp only [PV.cell] at c0 c1 c2 c3 c4 c5 c6 c7
    rw [Nat.add_zero] at c0
    have key := hsome _ rfl
    dsimp only at key
    clear HX hbd hsome hidx hnone hat hXR hx hj hcells hfst hE0 hfd
    generalize is.length = li at *
    generalize ps.length = lp at *
    go_enter Tryz.func182, Tryz.ntmps182
    go_wp2_with fail
    refine (HP.out _ HW2.out).mono ?_
    rintro _ w3 ⟨rfl, b3⟩
    have B3 := HW2.out.trans (b3.mono HW2.out.size)
    have C3 := HC2.out.below b3 (by simp)
    have d0 := (B3.cell (p := ⟨b, off + j * 8, none⟩) hbn).trans c0
    have d1 := (B3.cell (p := ⟨b, off + j * 8 + 1, none⟩) hbn).trans c1
    have d2 := (B3.cell (p := ⟨b, off + j * 8 + 2, none⟩) hbn).trans c2
    have d3 := (B3.cell (p := ⟨b, off + j * 8 + 3, none⟩) hbn).trans c3
    have d4 := (B3.cell (p := ⟨b, off + j * 8 + 4, none⟩) hbn).trans c4
    have d5 := (B3.cell (p := ⟨b, off + j * 8 + 5, none⟩) hbn).trans c5
    have d6 := (B3.cell (p := ⟨b, off + j * 8 + 6, none⟩) hbn).trans c6
    have i1 := C3.cell 1
    have i2 := C3.cell 2
    have i3 := C3.cell 3
    have iz := C3.lt
    simp at i1 i2 i3
    clear b3 HW2 HC2 HP c0 c1 c2 c3 c4 c5 c6
    have HB4 : Hid (Below w.heap.size w (w3.alloc (.cells #[.string N, .int .i64 xa, .int .i64 xi, .string T, .slice qe xs.length je, .slice qi li ji, .slice qp lp jp] 31))) := B3.alloc B3.size _
    rcases key with ⟨h1, rfl⟩ | ⟨rfl, h2, rfl⟩ | ⟨rfl, h2, ⟨h3, rfl⟩ | ⟨x, h3, rfl⟩⟩
    · have h1' : (xa != ia) = true := by simpa using h1
      go_wp2
      go_ret2
      exact ⟨rfl, HB4.out⟩
    · go_wp2
      go_ret2
      exact ⟨rfl, HB4.out⟩
    · rw [h3] at HXF
      dsimp only [posOf] at HXF
      go_wp2_with fail
      refine (HXF.out _ HB4.out).mono ?_
      rintro _ w5 ⟨rfl, b5⟩
      go_wp2
      go_ret2
      exact ⟨rfl, HB4.out.trans (b5.mono HB4.out.size)⟩
    · rw [h3] at HXF
      dsimp only [posOf] at HXF
      obtain ⟨m1, m2, m3⟩ := q4 x (List.mem_of_find?_eq_some h3)
      clear q4 h3
      go_wp2_with fail
      refine (HXF.out _ HB4.out).mono ?_
      rintro _ w5 ⟨rfl, b5⟩
      have B5 := HB4.out.trans (b5.mono HB4.out.size)
      have d7 := (B5.cell (p := ⟨b, off + j * 8 + 7, none⟩) hbn).trans c7
      clear b5 HB4 HXF c7 d0 d1 d2 d3 d4 d5 d6
      go_wp2
      go_ret2
      exact ⟨by rw [show 4096 + fi * 64 + x.pos = 4096 + 64 * fi + x.pos from by omega]; rfl, B5⟩

end Go.Proofs.YtlpnfbpgnfappaaGreat

/- The contract of the document's AddressesOf. -/
namespace Go.Proofs.YtlpnfbpgnfappaaGreat
open Go.RowKit Go.PlainAid

set_option maxRecDepth 100000

set_option maxHeartbeats 4000000 in
theorem addressesOf_any (K : Ker) (vk : Value) (l : List PV) (v : Value) (M : Mod) (vm : Value) (w : World) (hK : IsKer w.heap.size w vk K) (hrow : IsPlcs w.heap.size w v l) (hM : IsMod w.heap.size w vm M) (h0 : chkFind K (l.map PV.plc) = 0) (hm0 : chkMod M = 0) :
    Calls Tryz.prog 159 #[vk, v, vm] w fun e w' => (∃ r, e = .returned (.tuple #[r, .int .i64 (addrsFrom K (l.map PV.plc) [] M.imps).2]) ∧ RowOf 1 intCell w'.heap.size w' r (addrsFrom K (l.map PV.plc) [] M.imps).1) ∧ Below w.heap.size w w' := by
  have HA : Hid (∀ (i : Imp) W, Below w.heap.size w W → Calls Tryz.prog 182 #[vk, v, .agg #[.string i.mod, .string i.name, .int .i64 i.major, .int .i64 i.minor]] W fun e w' => e = .returned (.tuple #[.int .i64 (addrOf K (l.map PV.plc) i).1, .int .i64 (addrOf K (l.map PV.plc) i).2]) ∧ Below W.heap.size W w') :=
    fun i W hb => addressOf_any K vk l v i W ((hK.below hb).more hb.size) ((hrow.below hb).more hb.size) h0
  obtain ⟨vke, rfl, hE⟩ := hK
  obtain ⟨pe, ke, rfl, _, _⟩ := hE
  obtain ⟨⟨a, cap, rfl, _, _⟩, _⟩ := hrow
  obtain ⟨me, mi', mp, rfl, hme, hmi, hmp⟩ := hM
  obtain ⟨qe, je, rfl, _, _⟩ := hme
  obtain ⟨qi, ji, rfl, _, hrowI⟩ := hmi
  obtain ⟨qp, jp, rfl, _, _⟩ := hmp
  have hm6 : M.imps.length ≤ 6 := (chkMod_exps hm0).2.2.2.1
  generalize hL : l.map PV.plc = L at *
  have HAD : Hid (∀ acc x r, addrsFrom K L acc (x :: r) = if (addrOf K L x).2 ≠ 0 then ([], (addrOf K L x).2) else addrsFrom K L (acc ++ [(addrOf K L x).1]) r) := fun _ _ _ => rfl
  have HAN : Hid (∀ acc, addrsFrom K L acc [] = (acc, 0)) := fun _ => rfl
  clear h0 hm0
  generalize addrsFrom K L = AF at *
  generalize addrOf K L = AO at *
  obtain ⟨ma, mi, es⟩ := K
  obtain ⟨N, xa, xi, T, xs, is, ps⟩ := M
  dsimp only at *
  clear hL L
  generalize es.length = le at *
  generalize xs.length = lx at *
  generalize ps.length = lp at *
  generalize l.length = ll at *
  have B5 : Below w.heap.size w ((w.alloc (.cells #[.int .i64 ma, .int .i64 mi, .slice pe le ke] 24)).alloc (.cells #[.string N, .int .i64 xa, .int .i64 xi, .string T, .slice qe lx je, .slice qi is.length ji, .slice qp lp jp] 31)) := ((Below.refl _ _).alloc (Nat.le_refl _) _).alloc (by simp) _
  have K5 : CellsAt ((w.alloc (.cells #[.int .i64 ma, .int .i64 mi, .slice pe le ke] 24)).alloc (.cells #[.string N, .int .i64 xa, .int .i64 xi, .string T, .slice qe lx je, .slice qi is.length ji, .slice qp lp jp] 31)) w.heap.size 24 #[.int .i64 ma, .int .i64 mi, .slice pe le ke] := (CellsAt.new w 24 #[.int .i64 ma, .int .i64 mi, .slice pe le ke]).kept (World.grownBy_alloc _ _ none) (by simp)
  have D5 : CellsAt ((w.alloc (.cells #[.int .i64 ma, .int .i64 mi, .slice pe le ke] 24)).alloc (.cells #[.string N, .int .i64 xa, .int .i64 xi, .string T, .slice qe lx je, .slice qi is.length ji, .slice qp lp jp] 31)) (w.heap.size + 1) 31 #[.string N, .int .i64 xa, .int .i64 xi, .string T, .slice qe lx je, .slice qi is.length ji, .slice qp lp jp] := by
    have := CellsAt.new (w.alloc (.cells #[.int .i64 ma, .int .i64 mi, .slice pe le ke] 24)) 31 #[.string N, .int .i64 xa, .int .i64 xi, .string T, .slice qe lx je, .slice qi is.length ji, .slice qp lp jp]
    rw [World.size_alloc] at this
    exact this
  obtain ⟨ii, hii, hz0, hz1, hz2⟩ := infoInt_parts
  go_enter Tryz.func159, Tryz.ntmps159
  go_wp2_with fail
  generalize (w.alloc (.cells #[.int .i64 ma, .int .i64 mi, .slice pe le ke] 24)).alloc (.cells #[.string N, .int .i64 xa, .int .i64 xi, .string T, .slice qe lx je, .slice qi is.length ji, .slice qp lp jp] 31) = w5 at B5 K5 D5 ⊢
  go_loopw [8, 9] (fun f i wr => ∃ (k : Nat) (acc : List Int), k ≤ is.length ∧ i = .int .i64 k ∧ acc.length = k ∧ wr.ownsRow w5.heap.size 3 1 f acc.length (acc.flatMap intC) ∧ Hid (AF [] is = AF acc (is.drop k)) ∧ Below w5.heap.size w5 wr) (fun _ i _ => is.length - (intOf i).toNat)
  case atStart => exact ⟨0, [], Nat.zero_le _, rfl, rfl, ⟨rfl, .inl ⟨rfl, rfl⟩⟩, by show AF [] is = AF [] (is.drop 0); rfl, Below.refl _ _⟩
  case round =>
    obtain ⟨k, acc, hk, rfl, hacc, hown, HCC, B⟩ := hrel
    have B' : Below w.heap.size w wr := B5.trans (B.mono B5.size)
    have HLK : Hid (acc.length = k) := hacc
    rw [hacc] at hown
    clear hacc
    obtain ⟨av, kv, rfl⟩ := own_form hown
    have DB := D5.below B D5.lt
    have d5 := DB.cell 5
    simp at d5
    by_cases hlt : k < is.length
    · obtain ⟨x, hx⟩ : ∃ x, is[k]? = some x := ⟨_, List.getElem?_eq_getElem hlt⟩
      rcases hrowI with h | ⟨b, off, rfl, hbn, hcells⟩
      · subst h; simp at hlt
      have c0 := (B'.cell (p := ⟨b, off + k * 4 + 0, none⟩) hbn).trans (hcells k _ hx 0 (by omega))
      have c1 := (B'.cell (p := ⟨b, off + k * 4 + 1, none⟩) hbn).trans (hcells k _ hx 1 (by omega))
      have c2 := (B'.cell (p := ⟨b, off + k * 4 + 2, none⟩) hbn).trans (hcells k _ hx 2 (by omega))
      have c3 := (B'.cell (p := ⟨b, off + k * 4 + 3, none⟩) hbn).trans (hcells k _ hx 3 (by omega))
      have HR : Hid (AF [] is = if (AO x).2 ≠ 0 then ([], (AO x).2) else AF (acc ++ [(AO x).1]) (is.drop (k + 1))) := by
        show AF [] is = _
        rw [HCC.out, drop_at hx, HAD.out]
      have HAx := HA.out x
      obtain ⟨xm, xn, xma, xmi⟩ := x
      dsimp only [Imp.cell] at c0 c1 c2 c3
      dsimp only at HAx
      rw [Nat.add_zero] at c0
      generalize AO ⟨xm, xn, xma, xmi⟩ = q at HR HAx
      obtain ⟨p, q⟩ := q
      dsimp only at HR HAx
      have HAX : Hid (∀ d os, _) := fun d os => HAx _ (B'.trans ((below_regrown wr d os).mono B'.size))
      clear HCC hcells hx HAx HAD HAN
      have KB := K5.below B K5.lt
      have d0 := KB.cell 0
      have d1 := KB.cell 1
      have d2 := KB.cell 2
      simp at d0 d1 d2
      have r0 := cell_regrown c0
      have r1 := cell_regrown c1
      have r2 := cell_regrown c2
      have r3 := cell_regrown c3
      have s0 := cell_regrown d0
      have s1 := cell_regrown d1
      have s2 := cell_regrown d2
      have s5 := cell_regrown d5
      clear KB DB
      go_wp2_with fail
      refine wp_region_quiet_below (by kernel_rfl) (by kernel_rfl) ?_
      repeat (quiet_step ((go_at_call 182; go_must (exact Calls.regrown_of (HAX.out _ _)))))
      refine wpQuiet_nil ?_
      intro w7 hw7
      obtain ⟨⟨dq, osq⟩, hw7⟩ := hw7
      have b7 := below_regrown wr dq osq
      rw [← hw7] at b7
      clear hw7
      have O7 := own_below hown b7
      have B7 := B'.trans (b7.mono B'.size)
      have E7 := B.trans (b7.mono B.size)
      clear b7 hown HAX c0 c1 c2 c3 d0 d1 d2 d5 r0 r1 r2 r3 s0 s1 s2 s5
      by_cases hq : q = 0
      · subst hq
        have HR' : Hid (AF [] is = AF (acc ++ [p]) (is.drop (k + 1))) := by
          show AF [] is = _
          rw [HR.out]; rfl
        have hb5 : w5.heap.size ≤ w7.heap.size := E7.size
        have ha7 : k < 7 := by omega
        clear HR
        go_wp2_with (at_builtin; refine wpList_append_lies _ rfl _ _ _ rfl w5.heap.size 3 ii _ 1 8 Tryz.underlying64 hii hz0 hz1 hz2 rfl (by omega) (.slice av k kv) k (acc.flatMap intC) rfl (O7.alloc _) ⟨w7.heap.size, 0, none⟩ 1 1 [.int .i64 p] rfl rfl (World.news_of_block (cs := #[.int .i64 p]) (t := 3) (fr := (0, 0)) (CellsAt.new w7 3 #[.int .i64 p])) (by simp [Value.oneCell']) (by omega) (by unfold maxLen; omega) (by omega) (by simp; omega) (w7.heap.size + 1) (by simp) ?_; intro g gc w8 hown8 hgrow hat hltg)
        refine ⟨⟨k + 1, acc ++ [p], by omega, by go_num, by rw [List.length_append, HLK.out]; rfl, ?_, HR'.out, ?_⟩, by simp [intOf]; omega⟩
        · rw [List.length_append, List.flatMap_append, HLK.out]
          exact hown8
        · exact (E7.alloc E7.size _).grown hgrow (by simp; omega) (fun j hj => own_block O7 j hj)
      · have hq' : (q != 0) = true := by simpa using hq
        have HR' : Hid (AF [] is = ([], q)) := by
          show AF [] is = _
          rw [HR.out, if_pos hq]
        clear HR hq
        go_wp2
        go_ret2
        exact ⟨⟨.slice none 0 0, by rw [HR'.out]; rfl, by rw [HR'.out]; exact ⟨none, 0, rfl, by simp, .inl rfl⟩⟩, B7⟩
    · obtain rfl : k = is.length := by omega
      have HZ : Hid (AF [] is = (acc, 0)) := by
        show AF [] is = (acc, 0)
        rw [HCC.out, List.drop_length, HAN.out]
      go_wp2
      go_ret2
      exact ⟨⟨_, by rw [HZ.out]; rfl, by rw [HZ.out]; exact own_ints (by rw [HLK.out]; exact hown) (by rw [HLK.out]; omega)⟩, B'⟩

end Go.Proofs.YtlpnfbpgnfappaaGreat

/- The contracts of the document's CheckModules where no place is asked for, and of IsTwice. -/
namespace Go.Proofs.YtlpnfbpgnfappaaGreat
open Go.RowKit Go.PlainAid

set_option maxRecDepth 100000

theorem idx_lt {α : Type} {p : α → Bool} : ∀ (l : List α) (n k : Nat) (x : α), l[k]? = some x → p x = true → (decide (idxFrom p n l < ((n + k : Nat) : Int)) = (l.take k).any p)
  | [], _, _, _, h, _ => by simp at h
  | y :: l, n, 0, x, h, hx => by
    obtain rfl : y = x := by simpa using h
    have hs : idxFrom p n (y :: l) = if p y = true then (n : Int) else idxFrom p (n + 1) l := rfl
    rw [hs, hx]
    simp
  | y :: l, n, k + 1, x, h, hx => by
    have hs : idxFrom p n (y :: l) = if p y = true then (n : Int) else idxFrom p (n + 1) l := rfl
    rw [hs, List.take_succ_cons, List.any_cons]
    cases hy : p y
    · have ih := idx_lt l (n + 1) k x (by simpa using h) hx
      rw [Bool.false_or, ← ih, if_neg (by decide), show n + (k + 1) = n + 1 + k by omega]
    · rw [if_pos rfl, Bool.true_or]
      exact decide_eq_true (by omega)

set_option maxHeartbeats 2000000 in
theorem isTwice_any (l : List PV) (v : Value) (w : World) (hrow : RowOf 8 PV.cell w.heap.size w v l) :
    Calls Tryz.prog 105 #[v] w fun e w' => e = .returned (.bool (twiceFrom [] (l.map PV.plc))) ∧ Below w.heap.size w w' := by
  have HP : Hid (∀ W n, Below w.heap.size w W → Calls Tryz.prog 50 #[v, .string n] W fun e w' => e = .returned (.int .i64 (idxFrom (fun x : PV => x.mod.name == n) 0 l)) ∧ Below W.heap.size W w') := fun W n hb => placeOf_any l v n W ((hrow.below hb).more hb.size)
  obtain ⟨a, cap, rfl, hz, hrow⟩ := hrow
  have HC0 : Hid (twiceFrom [] (l.map PV.plc) = twiceFrom ((l.take 0).map (·.mod.name)) ((l.drop 0).map PV.plc)) := (rfl : _ = _)
  generalize twiceFrom [] (l.map PV.plc) = R at *
  go_enter Tryz.func105, Tryz.ntmps105
  go_wp2_with fail
  go_loopw [3] (fun i wr => ∃ (k : Nat), k ≤ l.length ∧ i = .int .i64 k ∧ Hid (R = twiceFrom ((l.take k).map (·.mod.name)) ((l.drop k).map PV.plc)) ∧ Below w.heap.size w wr) (fun i _ => l.length - (intOf i).toNat)
  case atStart => exact ⟨0, Nat.zero_le _, rfl, HC0.out, Below.refl _ _⟩
  case round =>
    obtain ⟨k, hk, rfl, HC, B⟩ := hrel
    clear HC0
    by_cases hlt : k < l.length
    · obtain ⟨x, hx⟩ : ∃ x, l[k]? = some x := ⟨_, List.getElem?_eq_getElem hlt⟩
      rcases hrow with h | ⟨b, off, rfl, hbn, hcells⟩
      · subst h; simp at hlt
      have c0 := (B.cell (p := ⟨b, off + k * 8 + 0, none⟩) hbn).trans (hcells k _ hx 0 (by omega))
      dsimp only [PV.cell] at c0
      rw [Nat.add_zero] at c0
      have hix := idx_lt (p := fun y : PV => y.mod.name == x.mod.name) l 0 k x hx ((Go.MapKept.bytes_beq _ _).2 rfl)
      have htk : (l.take (k + 1)).map (·.mod.name) = (l.take k).map (·.mod.name) ++ [x.mod.name] := by rw [List.take_add_one, hx]; simp
      have HR : Hid (R = (((l.take k).any fun y => y.mod.name == x.mod.name) || twiceFrom ((l.take (k + 1)).map (·.mod.name)) ((l.drop (k + 1)).map PV.plc))) := by
        show R = _
        rw [HC.out, drop_at hx, htk]
        have hs : ∀ met, twiceFrom met (x.plc :: (l.drop (k + 1)).map PV.plc) = ((met.any fun y => y == x.mod.name) || twiceFrom (met ++ [x.mod.name]) ((l.drop (k + 1)).map PV.plc)) := fun _ => rfl
        rw [List.map_cons, hs, List.any_map]
        rfl
      have HPX : Hid (Calls Tryz.prog 50 #[.slice (some ⟨b, off, none⟩) l.length cap, .string x.mod.name] wr fun e w' => e = .returned (.int .i64 (idxFrom (fun y : PV => y.mod.name == x.mod.name) 0 l)) ∧ Below wr.heap.size wr w') := HP.out wr x.mod.name B
      rw [Nat.zero_add] at hix
      clear hcells hx HC htk
      generalize ((l.take k).any fun y => y.mod.name == x.mod.name) = t at *
      generalize idxFrom (fun y : PV => y.mod.name == x.mod.name) 0 l = ix at *
      generalize x.mod.name = xn at *
      go_wp2_with fail
      refine HPX.out.mono ?_
      rintro e w2 ⟨rfl, b2⟩
      have B2 := B.trans (b2.mono B.size)
      clear HPX b2 c0
      cases t
      · have h1 : ¬ ix < (k : Int) := of_decide_eq_false hix
        have HR2 : Hid (R = twiceFrom ((l.take (k + 1)).map (·.mod.name)) ((l.drop (k + 1)).map PV.plc)) := by
          show R = _
          rw [HR.out, Bool.false_or]
        clear HR
        go_wp2
        exact ⟨⟨k + 1, by omega, by go_num, HR2.out, B2⟩, by simp [intOf]; omega⟩
      · have h1 : ix < (k : Int) := of_decide_eq_true hix
        have HR2 : Hid (R = true) := by
          show R = _
          rw [HR.out, Bool.true_or]
        clear HR
        go_wp2
        go_ret
        exact ⟨by rw [HR2.out]; rfl, B2⟩
    · obtain rfl : k = l.length := by omega
      have HZ : Hid (R = false) := by
        show R = false
        rw [HC.out, List.drop_length]; rfl
      go_wp2
      go_ret
      exact ⟨by rw [HZ.out]; rfl, B⟩

end Go.Proofs.YtlpnfbpgnfappaaGreat

/- The contracts of the document's answers to numbers in bytes. -/
namespace Go.Proofs.YtlpnfbpgnfappaaGreat
open Go.RowKit Go.PlainAid

theorem pow_le_31 (j : Nat) (h : j ≤ 31) : (1 : Int) ≤ 2 ^ j ∧ (2 : Int) ^ j ≤ 2147483648 := by
  constructor
  · have : (0 : Int) < 2 ^ j := Int.pow_pos (by omega)
    omega
  · have := Nat.pow_le_pow_right (n := 2) (by omega) h
    have h' : ((2 ^ j : Nat) : Int) ≤ ((2 ^ 31 : Nat) : Int) := Int.ofNat_le.2 this
    simpa using h'

set_option maxHeartbeats 400000 in
theorem power_any (k : Nat) (hk : k ≤ 32) (w : World) :
    Calls Tryz.prog 206 #[.int .i64 k] w fun e w' => e = .returned (.int .i64 (2 ^ k)) ∧ w' = w := by
  go_enter Tryz.func206, Tryz.ntmps206
  go_wp2
  go_loop [3, 4] (fun x i => ∃ (j : Nat) (p : Int), j ≤ k ∧ i = .int .i64 j ∧ x = .int .i64 p ∧ Hid (p = 2 ^ j)) (fun _ i => k - (intOf i).toNat)
  case atStart => exact ⟨0, 1, Nat.zero_le _, rfl, rfl, by show (1 : Int) = 2 ^ 0; rfl⟩
  case round =>
    obtain ⟨j, p, hj, rfl, rfl, HP⟩ := hrel
    by_cases hlt : j < k
    · obtain ⟨p1, p2⟩ := pow_le_31 j (by omega)
      rw [← HP.out] at p1 p2
      go_wp2
      go_round
      case rel => exact ⟨j + 1, 2 * p, by omega, by go_num, rfl, by show 2 * p = 2 ^ (j + 1); rw [HP.out, Int.pow_succ]; omega⟩
      case measure => simp [intOf]; omega
    · obtain rfl : j = k := by omega
      go_wp2
      go_ret
      exact ⟨by rw [← HP.out]; rfl, rfl⟩

theorem tmod_neg (n m : Int) (h0 : 0 < m) (h : n.tmod m < 0) : n % m = n.tmod m + m ∧ -m < n.tmod m := by
  have a := Int.emod_nonneg n (b := m) (by omega)
  have b := Int.emod_lt_of_pos n h0
  rw [Int.tmod_eq_emod] at h ⊢
  split at h
  · omega
  · rw [if_neg ‹_›]; omega
theorem tmod_nonneg (n m : Int) (h0 : 0 < m) (h : 0 ≤ n.tmod m) : n % m = n.tmod m := by
  have a := Int.emod_nonneg n (b := m) (by omega)
  have b := Int.emod_lt_of_pos n h0
  rw [Int.tmod_eq_emod] at h ⊢
  split at h
  · rw [if_pos ‹_›]; omega
  · omega

set_option maxHeartbeats 400000 in
theorem modulo_any (n m : Int) (h0 : 0 < m) (h1 : m ≤ 4294967296) (w : World) :
    Calls Tryz.prog 205 #[.int .i64 n, .int .i64 m] w fun e w' => e = .returned (.int .i64 (n % m)) ∧ w' = w := by
  have hne : (m == 0) = false := beq_eq_false_iff_ne.2 (by omega)
  have hne1 : (m == -1) = false := beq_eq_false_iff_ne.2 (by omega)
  by_cases h : n.tmod m < 0
  · obtain ⟨e1, e2⟩ := tmod_neg n m h0 h
    rw [e1]
    have HE : Hid (wrap64 (n.tmod m + m) = n.tmod m + m) := by show wrap64 (n.tmod m + m) = n.tmod m + m; unfold wrap64; omega
    clear e1
    go_enter Tryz.func205, Tryz.ntmps205
    go_wp2
    go_ret
    exact ⟨by first | rfl | (rw [← HE.out]; rfl), rfl⟩
  · have e1 := tmod_nonneg n m h0 (by omega)
    rw [e1]
    clear e1
    go_enter Tryz.func205, Tryz.ntmps205
    go_wp2
    go_ret
    exact ⟨rfl, rfl⟩

end Go.Proofs.YtlpnfbpgnfappaaGreat
