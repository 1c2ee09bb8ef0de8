/- The contract of the document's AddressOf. -/
import Derived.Test.YtaklbnabgcglhabRrA
namespace Go.Proofs.Ytaklbnabgcglhab
open Go.RowKit Go.PlainAid

set_option maxRecDepth 100000

/-- An address, when what is meant is known. -/
theorem addrOf_tgt {K : Ker} {l : List Plc} {i : Imp} {t : Tgt} (h : tgtOf K l i.mod = some t) : (t.major ≠ i.major ∧ addrOf K l i = (0, 4)) ∨ (t.major = i.major ∧ t.minor < i.minor ∧ addrOf K l i = (0, 4)) ∨
    (t.major = i.major ∧ i.minor ≤ t.minor ∧ (expOf t.exps i.name = none ∧ addrOf K l i = (0, 5) ∨ ∃ x, expOf t.exps i.name = some x ∧ addrOf K l i = (t.beg + x.pos, 0))) := by
  rcases addrOf_cases K l i with ⟨h1, _⟩ | ⟨t', h1, h2⟩
  · rw [h] at h1; cases h1
  · rw [h] at h1
    rw [← Option.some.inj h1] at h2
    exact h2

set_option maxHeartbeats 4000000 in
theorem addressOf_any (K : Ker) (vk : Value) (l : List PV) (v : Value) (i : Imp) (w : World) (hK : IsKer w.heap.size w vk K) (hrow : IsPlcs w.heap.size w v l) (h0 : chkFind K (l.map PV.plc) = 0) :
    Calls Try.prog 21 #[vk, v, .agg #[.string i.mod, .string i.name, .int .i64 i.major, .int .i64 i.minor]] w fun e w' => e = .returned (.tuple #[.int .i64 (addrOf K (l.map PV.plc) i).1, .int .i64 (addrOf K (l.map PV.plc) i).2]) ∧ Below w.heap.size w w' := by
  have HX : Hid (∀ (es : List Exp) (ve : Value) W, Below w.heap.size w W → RowOf 2 Exp.cell w.heap.size w ve es → Calls Try.prog 52 #[ve, .string i.name] W fun e w' => e = .returned (.int .i64 (posOf (expOf es i.name))) ∧ Below W.heap.size W w') :=
    fun es ve W hb hr => exportAt_any es ve i.name W ((hr.below hb).more hb.size)
  have HP : Hid (∀ W, Below w.heap.size w W → Calls Try.prog 31 #[v, .string i.mod] W fun e w' => e = .returned (.int .i64 (idxFrom (fun x : PV => x.mod.name == i.mod) 0 l)) ∧ Below W.heap.size W w') :=
    fun W hb => placeOf_any l v i.mod W ((hrow.1.below hb).more hb.size)
  obtain ⟨vke, rfl, hE⟩ := hK
  have hE0 := hE
  obtain ⟨pe, ke, rfl, _, _⟩ := hE
  have hat := hrow.2
  obtain ⟨⟨a, cap, rfl, _, hrow⟩, _⟩ := hrow
  have hbd := fun t (ht : tgtOf K (l.map PV.plc) i.mod = some t) => tgt_bd h0 ht
  have hfst : ∀ x ∈ l, 0 ≤ x.first ∧ x.first ≤ 15 := fun x hx => by
    have := (chkFind_zero h0).2.2 x.plc (List.mem_map_of_mem hx)
    exact ⟨this.2.1, this.2.2⟩
  have hcase := tgt_cases K l i.mod
  have hidx := idx_find (fun x : PV => x.mod.name == i.mod) l 0
  have hnone : tgtOf K (l.map PV.plc) i.mod = none → addrOf K (l.map PV.plc) i = (0, 5) := fun h => by unfold addrOf; rw [h]
  have hsome := fun t (ht : tgtOf K (l.map PV.plc) i.mod = some t) => addrOf_tgt ht
  generalize addrOf K (l.map PV.plc) i = R at *
  generalize tgtOf K (l.map PV.plc) i.mod = TT at *
  generalize idxFrom (fun x : PV => x.mod.name == i.mod) 0 l = IX at *
  generalize hfd : l.find? (fun x : PV => x.mod.name == i.mod) = FD at *
  obtain ⟨ma, mi, es⟩ := K
  obtain ⟨im, inm, ia, ib⟩ := i
  dsimp only at *
  clear h0
  have HW2 : Hid (Below w.heap.size w ((w.alloc (.cells #[.int .i64 ma, .int .i64 mi, .slice pe es.length ke] 37)).alloc (.cells #[.string im, .string inm, .int .i64 ia, .int .i64 ib] 40))) := ((Below.refl _ _).alloc (Nat.le_refl _) _).alloc (by simp) _
  have HC2 : Hid (CellsAt ((w.alloc (.cells #[.int .i64 ma, .int .i64 mi, .slice pe es.length ke] 37)).alloc (.cells #[.string im, .string inm, .int .i64 ia, .int .i64 ib] 40)) (w.heap.size + 1) 40 #[.string im, .string inm, .int .i64 ia, .int .i64 ib]) := by
    have := CellsAt.new (w.alloc (.cells #[.int .i64 ma, .int .i64 mi, .slice pe es.length ke] 37)) 40 #[.string im, .string inm, .int .i64 ia, .int .i64 ib]
    rw [World.size_alloc] at this
    exact this
  rcases hcase with ⟨g1, rfl⟩ | ⟨g1, ⟨rfl, rfl⟩ | ⟨x, rfl, rfl⟩⟩
  · rw [← kern_form] at g1
    have HXE := fun W hb => HX.out es _ W hb hE0
    obtain ⟨q1, q2, q3, q4⟩ := hbd _ rfl
    have HXF : Hid (∀ W, Below w.heap.size w W → Calls Try.prog 52 #[.slice pe es.length ke, .string inm] W fun e w' => e = .returned (.int .i64 (posOf (expOf es inm))) ∧ Below W.heap.size W w') := HXE
    have key := hsome _ rfl
    dsimp only at key q1 q2 q3 q4
    rcases key with ⟨h1, rfl⟩ | ⟨rfl, h2, rfl⟩ | ⟨rfl, h2, ⟨h3, rfl⟩ | ⟨x, h3, rfl⟩⟩
    · have h1' : (ma != ia) = true := by simpa using h1
      clear HX HP HXE HXF hbd hsome hidx hnone
      go_enter Try.func21, Try.ntmps21
      go_wp2
      go_ret2
      exact ⟨rfl, HW2.out⟩
    · clear HX HP HXE HXF hbd hsome hidx hnone
      go_enter Try.func21, Try.ntmps21
      go_wp2
      go_ret2
      exact ⟨rfl, HW2.out⟩
    · rw [h3] at HXF
      dsimp only [posOf] at HXF
      clear HX HP HXE hbd hsome hidx hnone
      go_enter Try.func21, Try.ntmps21
      go_wp2_with fail
      refine (HXF.out _ HW2.out).mono ?_
      rintro _ w3 ⟨rfl, b3⟩
      go_wp2
      go_ret2
      exact ⟨rfl, HW2.out.trans (b3.mono HW2.out.size)⟩
    · rw [h3] at HXF
      dsimp only [posOf] at HXF
      obtain ⟨m1, m2, m3⟩ := q4 x (List.mem_of_find?_eq_some h3)
      clear HX HP HXE hbd hsome hidx hnone q4 h3
      go_enter Try.func21, Try.ntmps21
      go_wp2_with fail
      refine (HXF.out _ HW2.out).mono ?_
      rintro _ w3 ⟨rfl, b3⟩
      go_wp2
      go_ret2
      exact ⟨by rw [show 0 + x.pos = x.pos from by omega]; rfl, HW2.out.trans (b3.mono HW2.out.size)⟩
  · rw [← kern_form] at g1
    have hR := hnone rfl
    subst hR
    have hIX : IX = -1 := by
      rcases hidx with ⟨_, h⟩ | ⟨j, x, h, _⟩
      · exact h
      · cases h
    subst hIX
    clear HX hbd hsome hidx hnone
    go_enter Try.func21, Try.ntmps21
    go_wp2_with fail
    refine (HP.out _ HW2.out).mono ?_
    rintro _ w3 ⟨rfl, b3⟩
    go_wp2
    go_ret2
    exact ⟨rfl, HW2.out.trans (b3.mono HW2.out.size)⟩
  · rw [← kern_form] at g1
    obtain ⟨j, hj, hIX⟩ : ∃ j : Nat, l[j]? = some x ∧ IX = j := by
      rcases hidx with ⟨h, _⟩ | ⟨j, x', h, h2, h3⟩
      · cases h
      · rw [← Option.some.inj h] at h2
        exact ⟨j, h2, by simpa using h3⟩
    subst hIX
    obtain ⟨q1, q2, q3, q4⟩ := hbd _ rfl
    have hx := List.mem_of_getElem? hj
    obtain ⟨f1, f2⟩ := hfst x hx
    have hlt : j < l.length := (List.getElem?_eq_some_iff.1 hj).1
    rcases hrow with h | ⟨b, off, rfl, hbn, hcells⟩
    · subst h; simp at hlt
    have hXR := (hat x hx).1
    obtain ⟨⟨qe, je, e4, _⟩, ⟨qi, ji, e5, _⟩, ⟨qp, jp, e6, _⟩⟩ := hat x hx
    obtain ⟨⟨N, xa, xi, T, xs, is, ps⟩, ve, vi, vp, fi⟩ := x
    dsimp only at *
    subst e4 e5 e6
    have HXF : Hid (∀ W, Below w.heap.size w W → Calls Try.prog 52 #[.slice qe xs.length je, .string inm] W fun e w' => e = .returned (.int .i64 (posOf (expOf xs inm))) ∧ Below W.heap.size W w') := fun W hb => HX.out xs _ W hb hXR
    have c0 := hcells j _ hj 0 (by omega)
    have c1 := hcells j _ hj 1 (by omega)
    have c2 := hcells j _ hj 2 (by omega)
    have c3 := hcells j _ hj 3 (by omega)
    have c4 := hcells j _ hj 4 (by omega)
    have c5 := hcells j _ hj 5 (by omega)
    have c6 := hcells j _ hj 6 (by omega)
    have c7 := hcells j _ hj 7 (by omega)
    dsimp only [PV.cell] at c0 c1 c2 c3 c4 c5 c6 c7
    rw [Nat.add_zero] at c0
    have key := hsome _ rfl
    dsimp only at key
    clear HX hbd hsome hidx hnone hat hXR hx hj hcells hfst hE0 hfd
    generalize is.length = li at *
    generalize ps.length = lp at *
    go_enter Try.func21, Try.ntmps21
    go_wp2_with fail
    refine (HP.out _ HW2.out).mono ?_
    rintro _ w3 ⟨rfl, b3⟩
    have B3 := HW2.out.trans (b3.mono HW2.out.size)
    have C3 := HC2.out.below b3 (by simp)
    have d0 := (B3.cell (p := ⟨b, off + j * 8, none⟩) hbn).trans c0
    have d1 := (B3.cell (p := ⟨b, off + j * 8 + 1, none⟩) hbn).trans c1
    have d2 := (B3.cell (p := ⟨b, off + j * 8 + 2, none⟩) hbn).trans c2
    have d3 := (B3.cell (p := ⟨b, off + j * 8 + 3, none⟩) hbn).trans c3
    have d4 := (B3.cell (p := ⟨b, off + j * 8 + 4, none⟩) hbn).trans c4
    have d5 := (B3.cell (p := ⟨b, off + j * 8 + 5, none⟩) hbn).trans c5
    have d6 := (B3.cell (p := ⟨b, off + j * 8 + 6, none⟩) hbn).trans c6
    have i1 := C3.cell 1
    have i2 := C3.cell 2
    have i3 := C3.cell 3
    have iz := C3.lt
    simp at i1 i2 i3
    clear b3 HW2 HC2 HP c0 c1 c2 c3 c4 c5 c6
    have HB4 : Hid (Below w.heap.size w (w3.alloc (.cells #[.string N, .int .i64 xa, .int .i64 xi, .string T, .slice qe xs.length je, .slice qi li ji, .slice qp lp jp] 44))) := B3.alloc B3.size _
    rcases key with ⟨h1, rfl⟩ | ⟨rfl, h2, rfl⟩ | ⟨rfl, h2, ⟨h3, rfl⟩ | ⟨x, h3, rfl⟩⟩
    · have h1' : (xa != ia) = true := by simpa using h1
      go_wp2
      go_ret2
      exact ⟨rfl, HB4.out⟩
    · go_wp2
      go_ret2
      exact ⟨rfl, HB4.out⟩
    · rw [h3] at HXF
      dsimp only [posOf] at HXF
      go_wp2_with fail
      refine (HXF.out _ HB4.out).mono ?_
      rintro _ w5 ⟨rfl, b5⟩
      go_wp2
      go_ret2
      exact ⟨rfl, HB4.out.trans (b5.mono HB4.out.size)⟩
    · rw [h3] at HXF
      dsimp only [posOf] at HXF
      obtain ⟨m1, m2, m3⟩ := q4 x (List.mem_of_find?_eq_some h3)
      clear q4 h3
      go_wp2_with fail
      refine (HXF.out _ HB4.out).mono ?_
      rintro _ w5 ⟨rfl, b5⟩
      have B5 := HB4.out.trans (b5.mono HB4.out.size)
      have d7 := (B5.cell (p := ⟨b, off + j * 8 + 7, none⟩) hbn).trans c7
      clear b5 HB4 HXF c7 d0 d1 d2 d3 d4 d5 d6
      go_wp2
      go_ret2
      exact ⟨by rw [show 4096 + fi * 64 + x.pos = 4096 + 64 * fi + x.pos from by omega]; rfl, B5⟩

end Go.Proofs.Ytaklbnabgcglhab
