/- Texts that are laid together. -/
import Derived.Test.YtppmihnbpmkbnadGreatMrgP
import Derived.Lib.QuietBelow
import Derived.Test.YtppmihnbpmkbnadGreatMrgI
import Derived.Test.YtppmihnbpmkbnadGreatMrgF
import Derived.Test.YtppmihnbpmkbnadGreatMrgE
import Derived.Test.YtppmihnbpmkbnadGreatMrgM

/- The contract of the document's AddressOf. -/
namespace Go.Proofs.YtppmihnbpmkbnadGreat
open Go.RowKit Go.PlainAid

set_option maxRecDepth 100000

/-- An address, when what is meant is known. -/
theorem addrOf_tgt {K : Ker} {l : List Plc} {i : Imp} {t : Tgt} (h : tgtOf K l i.mod = some t) : (t.major ≠ i.major ∧ addrOf K l i = (0, 4)) ∨ (t.major = i.major ∧ t.minor < i.minor ∧ addrOf K l i = (0, 4)) ∨
    (t.major = i.major ∧ i.minor ≤ t.minor ∧ (expOf t.exps i.name = none ∧ addrOf K l i = (0, 5) ∨ ∃ x, expOf t.exps i.name = some x ∧ addrOf K l i = (t.beg + x.pos, 0))) := by
  rcases addrOf_cases K l i with ⟨h1, _⟩ | ⟨t', h1, h2⟩
  · rw [h] at h1; cases h1
  · rw [h] at h1
    rw [← Option.some.inj h1] at h2
    exact h2

set_option maxHeartbeats 4000000 in
theorem addressOf_any (K : Ker) (vk : Value) (l : List PV) (v : Value) (i : Imp) (w : World) (hK : IsKer w.heap.size w vk K) (hrow : IsPlcs w.heap.size w v l) (h0 : chkFind K (l.map PV.plc) = 0) :
    Calls Tryz.prog 85 #[vk, v, .agg #[.string i.mod, .string i.name, .int .i64 i.major, .int .i64 i.minor]] w fun e w' => e = .returned (.tuple #[.int .i64 (addrOf K (l.map PV.plc) i).1, .int .i64 (addrOf K (l.map PV.plc) i).2]) ∧ Below w.heap.size w w' := by
  have HX : Hid (∀ (es : List Exp) (ve : Value) W, Below w.heap.size w W → RowOf 2 Exp.cell w.heap.size w ve es → Calls Tryz.prog 133 #[ve, .string i.name] W fun e w' => e = .returned (.int .i64 (posOf (expOf es i.name))) ∧ Below W.heap.size W w') :=
    fun es ve W hb hr => exportAt_any es ve i.name W ((hr.below hb).more hb.size)
  have HP : Hid (∀ W, Below w.heap.size w W → Calls Tryz.prog 12 #[v, .string i.mod] W fun e w' => e = .returned (.int .i64 (idxFrom (fun x : PV => x.mod.name == i.mod) 0 l)) ∧ Below W.heap.size W w') :=
    fun W hb => placeOf_any l v i.mod W ((hrow.1.below hb).more hb.size)
  obtain ⟨vke, rfl, hE⟩ := hK
  have hE0 := hE
  obtain ⟨pe, ke, rfl, _, _⟩ := hE
  have hat := hrow.2
  obtain ⟨⟨a, cap, rfl, _, hrow⟩, _⟩ := hrow
  have hbd := fun t (ht : tgtOf K (l.map PV.plc) i.mod = some t) => tgt_bd h0 ht
  have hfst : ∀ x ∈ l, 0 ≤ x.first ∧ x.first ≤ 15 := fun x hx => by
    have := (chkFind_zero h0).2.2 x.plc (List.mem_map_of_mem hx)
    exact ⟨this.2.1, this.2.2⟩
  have hcase := tgt_cases K l i.mod
  have hidx := idx_find (fun x : PV => x.mod.name == i.mod) l 0
  have hnone : tgtOf K (l.map PV.plc) i.mod = none → addrOf K (l.map PV.plc) i = (0, 5) := fun h => by unfold addrOf; rw [h]
  have hsome := fun t (ht : tgtOf K (l.map PV.plc) i.mod = some t) => addrOf_tgt ht
  generalize addrOf K (l.map PV.plc) i = R at *
  generalize tgtOf K (l.map PV.plc) i.mod = TT at *
  generalize idxFrom (fun x : PV => x.mod.name == i.mod) 0 l = IX at *
  generalize hfd : l.find? (fun x : PV => x.mod.name == i.mod) = FD at *
  obtain ⟨ma, mi, es⟩ := K
  obtain ⟨im, inm, ia, ib⟩ := i
  dsimp only at *
  clear h0
  have HW2 : Hid (Below w.heap.size w ((w.alloc (.cells #[.int .i64 ma, .int .i64 mi, .slice pe es.length ke] 24)).alloc (.cells #[.string im, .string inm, .int .i64 ia, .int .i64 ib] 84))) := ((Below.refl _ _).alloc (Nat.le_refl _) _).alloc (by simp) _
  have HC2 : Hid (CellsAt ((w.alloc (.cells #[.int .i64 ma, .int .i64 mi, .slice pe es.length ke] 24)).alloc (.cells #[.string im, .string inm, .int .i64 ia, .int .i64 ib] 84)) (w.heap.size + 1) 84 #[.string im, .string inm, .int .i64 ia, .int .i64 ib]) := by
    have := CellsAt.new (w.alloc (.cells #[.int .i64 ma, .int .i64 mi, .slice pe es.length ke] 24)) 84 #[.string im, .string inm, .int .i64 ia, .int .i64 ib]
    rw [World.size_alloc] at this
    exact this
  rcases hcase with ⟨g1, rfl⟩ | ⟨g1, ⟨rfl, rfl⟩ | ⟨x, rfl, rfl⟩⟩
  · rw [← kern_form] at g1
    have HXE := fun W hb => HX.out es _ W hb hE0
    obtain ⟨q1, q2, q3, q4⟩ := hbd _ rfl
    have HXF : Hid (∀ W, Below w.heap.size w W → Calls Tryz.prog 133 #[.slice pe es.length ke, .string inm] W fun e w' => e = .returned (.int .i64 (posOf (expOf es inm))) ∧ Below W.heap.size W w') := HXE
    have key := hsome _ rfl
    dsimp only at key q1 q2 q3 q4
    rcases key with ⟨h1, rfl⟩ | ⟨rfl, h2, rfl⟩ | ⟨rfl, h2, ⟨h3, rfl⟩ | ⟨x, h3, rfl⟩⟩
    · have h1' : (ma != ia) = true := by simpa using h1
      clear HX HP HXE HXF hbd hsome hidx hnone
      go_enter Tryz.func85, Tryz.ntmps85
      go_wp2
      go_ret2
      exact ⟨rfl, HW2.out⟩
    · clear HX HP HXE HXF hbd hsome hidx hnone
      go_enter Tryz.func85, Tryz.ntmps85
      go_wp2
      go_ret2
      exact ⟨rfl, HW2.out⟩
    · rw [h3] at HXF
      dsimp only [posOf] at HXF
      clear HX HP HXE hbd hsome hidx hnone
      go_enter Tryz.func85, Tryz.ntmps85
      go_wp2_with fail
      refine (HXF.out _ HW2.out).mono ?_
      rintro _ w3 ⟨rfl, b3⟩
      go_wp2
      go_ret2
      exact ⟨rfl, HW2.out.trans (b3.mono HW2.out.size)⟩
    · rw [h3] at HXF
      dsimp only [posOf] at HXF
      obtain ⟨m1, m2, m3⟩ := q4 x (List.mem_of_find?_eq_some h3)
      clear HX HP HXE hbd hsome hidx hnone q4 h3
      go_enter Tryz.func85, Tryz.ntmps85
      go_wp2_with fail
      refine (HXF.out _ HW2.out).mono ?_
      rintro _ w3 ⟨rfl, b3⟩
      go_wp2
      go_ret2
      exact ⟨by rw [show 0 + x.pos = x.pos from by omega]; rfl, HW2.out.trans (b3.mono HW2.out.size)⟩
  · rw [← kern_form] at g1
    have hR := hnone rfl
    subst hR
    have hIX : IX = -1 := by
      rcases hidx with ⟨_, h⟩ | ⟨j, x, h, _⟩
      · exact h
      · cases h
    subst hIX
    clear HX hbd hsome hidx hnone
    go_enter Tryz.func85, Tryz.ntmps85
    go_wp2_with fail
    refine (HP.out _ HW2.out).mono ?_
    rintro _ w3 ⟨rfl, b3⟩
    go_wp2
    go_ret2
    exact ⟨rfl, HW2.out.trans (b3.mono HW2.out.size)⟩
  · rw [← kern_form] at g1
    obtain ⟨j, hj, hIX⟩ : ∃ j : Nat, l[j]? = some x ∧ IX = j := by
      rcases hidx with ⟨h, _⟩ | ⟨j, x', h, h2, h3⟩
      · cases h
      · rw [← Option.some.inj h] at h2
        exact ⟨j, h2, by simpa using h3⟩
    subst hIX
    obtain ⟨q1, q2, q3, q4⟩ := hbd _ rfl
    have hx := List.mem_of_getElem? hj
    obtain ⟨f1, f2⟩ := hfst x hx
    have hlt : j < l.length := (List.getElem?_eq_some_iff.1 hj).1
    rcases hrow with h | ⟨b, off, rfl, hbn, hcells⟩
    · subst h; simp at hlt
    have hXR := (hat x hx).1
    obtain ⟨⟨qe, je, e4, _⟩, ⟨qi, ji, e5, _⟩, ⟨qp, jp, e6, _⟩⟩ := hat x hx
    obtain ⟨⟨N, xa, xi, T, xs, is, ps⟩, ve, vi, vp, fi⟩ := x
    dsimp only at *
    subst e4 e5 e6
    have HXF : Hid (∀ W, Below w.heap.size w W → Calls Tryz.prog 133 #[.slice qe xs.length je, .string inm] W fun e w' => e = .returned (.int .i64 (posOf (expOf xs inm))) ∧ Below W.heap.size W w') := fun W hb => HX.out xs _ W hb hXR
    have c0 := hcells j _ hj 0 (by omega)
    have c1 := hcells j _ hj 1 (by omega)
    have c2 := hcells j _ hj 2 (by omega)
    have c3 := hcells j _ hj 3 (by omega)
    have c4 := hcells j _ hj 4 (by omega)
    have c5 := hcells j _ hj 5 (by omega)
    have c6 := hcells j _ hj 6 (by omega)
    have c7 := hcells j _ hj 7 (by omega)
    dsimp only [PV.cell] at c0 c1 c2 c3 c4 c5 c6 c7
    rw [Nat.add_zero] at c0
    have key := hsome _ rfl
    dsimp only at key
    clear HX hbd hsome hidx hnone hat hXR hx hj hcells hfst hE0 hfd
    generalize is.length = li at *
    generalize ps.length = lp at *
    go_enter Tryz.func85, Tryz.ntmps85
    go_wp2_with fail
    refine (HP.out _ HW2.out).mono ?_
    rintro _ w3 ⟨rfl, b3⟩
    have B3 := HW2.out.trans (b3.mono HW2.out.size)
    have C3 := HC2.out.below b3 (by simp)
    have d0 := (B3.cell (p := ⟨b, off + j * 8, none⟩) hbn).trans c0
    have d1 := (B3.cell (p := ⟨b, off + j * 8 + 1, none⟩) hbn).trans c1
    have d2 := (B3.cell (p := ⟨b, off + j * 8 + 2, none⟩) hbn).trans c2
    have d3 := (B3.cell (p := ⟨b, off + j * 8 + 3, none⟩) hbn).trans c3
    have d4 := (B3.cell (p := ⟨b, off + j * 8 + 4, none⟩) hbn).trans c4
    have d5 := (B3.cell (p := ⟨b, off + j * 8 + 5, none⟩) hbn).trans c5
    have d6 := (B3.cell (p := ⟨b, off + j * 8 + 6, none⟩) hbn).trans c6
    have i1 := C3.cell 1
    have i2 := C3.cell 2
    have i3 := C3.cell 3
    have iz := C3.lt
    simp at i1 i2 i3
    clear b3 HW2 HC2 HP c0 c1 c2 c3 c4 c5 c6
    have HB4 : Hid (Below w.heap.size w (w3.alloc (.cells #[.string N, .int .i64 xa, .int .i64 xi, .string T, .slice qe xs.length je, .slice qi li ji, .slice qp lp jp] 39))) := B3.alloc B3.size _
    rcases key with ⟨h1, rfl⟩ | ⟨rfl, h2, rfl⟩ | ⟨rfl, h2, ⟨h3, rfl⟩ | ⟨x, h3, rfl⟩⟩
    · have h1' : (xa != ia) = true := by simpa using h1
      go_wp2
      go_ret2
      exact ⟨rfl, HB4.out⟩
    · go_wp2
      go_ret2
      exact ⟨rfl, HB4.out⟩
    · rw [h3] at HXF
      dsimp only [posOf] at HXF
      go_wp2_with fail
      refine (HXF.out _ HB4.out).mono ?_
      rintro _ w5 ⟨rfl, b5⟩
      go_wp2
      go_ret2
      exact ⟨rfl, HB4.out.trans (b5.mono HB4.out.size)⟩
    · rw [h3] at HXF
      dsimp only [posOf] at HXF
      obtain ⟨m1, m2, m3⟩ := q4 x (List.mem_of_find?_eq_some h3)
      clear q4 h3
      go_wp2_with fail
      refine (HXF.out _ HB4.out).mono ?_
      rintro _ w5 ⟨rfl, b5⟩
      have B5 := HB4.out.trans (b5.mono HB4.out.size)
      have d7 := (B5.cell (p := ⟨b, off + j * 8 + 7, none⟩) hbn).trans c7
      clear b5 HB4 HXF c7 d0 d1 d2 d3 d4 d5 d6
      go_wp2
      go_ret2
      exact ⟨by rw [show 4096 + fi * 64 + x.pos = 4096 + 64 * fi + x.pos from by omega]; rfl, B5⟩

end Go.Proofs.YtppmihnbpmkbnadGreat

/- The contract of the document's AddressesOf. -/
namespace Go.Proofs.YtppmihnbpmkbnadGreat
open Go.RowKit Go.PlainAid

set_option maxRecDepth 100000

set_option maxHeartbeats 4000000 in
theorem addressesOf_any (K : Ker) (vk : Value) (l : List PV) (v : Value) (M : Mod) (vm : Value) (w : World) (hK : IsKer w.heap.size w vk K) (hrow : IsPlcs w.heap.size w v l) (hM : IsMod w.heap.size w vm M) (h0 : chkFind K (l.map PV.plc) = 0) (hm0 : chkMod M = 0) :
    Calls Tryz.prog 41 #[vk, v, vm] w fun e w' => (∃ r, e = .returned (.tuple #[r, .int .i64 (addrsFrom K (l.map PV.plc) [] M.imps).2]) ∧ RowOf 1 intCell w'.heap.size w' r (addrsFrom K (l.map PV.plc) [] M.imps).1) ∧ Below w.heap.size w w' := by
  have HA : Hid (∀ (i : Imp) W, Below w.heap.size w W → Calls Tryz.prog 85 #[vk, v, .agg #[.string i.mod, .string i.name, .int .i64 i.major, .int .i64 i.minor]] W fun e w' => e = .returned (.tuple #[.int .i64 (addrOf K (l.map PV.plc) i).1, .int .i64 (addrOf K (l.map PV.plc) i).2]) ∧ Below W.heap.size W w') :=
    fun i W hb => addressOf_any K vk l v i W ((hK.below hb).more hb.size) ((hrow.below hb).more hb.size) h0
  obtain ⟨vke, rfl, hE⟩ := hK
  obtain ⟨pe, ke, rfl, _, _⟩ := hE
  obtain ⟨⟨a, cap, rfl, _, _⟩, _⟩ := hrow
  obtain ⟨me, mi', mp, rfl, hme, hmi, hmp⟩ := hM
  obtain ⟨qe, je, rfl, _, _⟩ := hme
  obtain ⟨qi, ji, rfl, _, hrowI⟩ := hmi
  obtain ⟨qp, jp, rfl, _, _⟩ := hmp
  have hm6 : M.imps.length ≤ 6 := (chkMod_exps hm0).2.2.2.1
  generalize hL : l.map PV.plc = L at *
  have HAD : Hid (∀ acc x r, addrsFrom K L acc (x :: r) = if (addrOf K L x).2 ≠ 0 then ([], (addrOf K L x).2) else addrsFrom K L (acc ++ [(addrOf K L x).1]) r) := fun _ _ _ => rfl
  have HAN : Hid (∀ acc, addrsFrom K L acc [] = (acc, 0)) := fun _ => rfl
  clear h0 hm0
  generalize addrsFrom K L = AF at *
  generalize addrOf K L = AO at *
  obtain ⟨ma, mi, es⟩ := K
  obtain ⟨N, xa, xi, T, xs, is, ps⟩ := M
  dsimp only at *
  clear hL L
  generalize es.length = le at *
  generalize xs.length = lx at *
  generalize ps.length = lp at *
  generalize l.length = ll at *
  have B5 : Below w.heap.size w ((w.alloc (.cells #[.int .i64 ma, .int .i64 mi, .slice pe le ke] 24)).alloc (.cells #[.string N, .int .i64 xa, .int .i64 xi, .string T, .slice qe lx je, .slice qi is.length ji, .slice qp lp jp] 39)) := ((Below.refl _ _).alloc (Nat.le_refl _) _).alloc (by simp) _
  have K5 : CellsAt ((w.alloc (.cells #[.int .i64 ma, .int .i64 mi, .slice pe le ke] 24)).alloc (.cells #[.string N, .int .i64 xa, .int .i64 xi, .string T, .slice qe lx je, .slice qi is.length ji, .slice qp lp jp] 39)) w.heap.size 24 #[.int .i64 ma, .int .i64 mi, .slice pe le ke] := (CellsAt.new w 24 #[.int .i64 ma, .int .i64 mi, .slice pe le ke]).kept (World.grownBy_alloc _ _ none) (by simp)
  have D5 : CellsAt ((w.alloc (.cells #[.int .i64 ma, .int .i64 mi, .slice pe le ke] 24)).alloc (.cells #[.string N, .int .i64 xa, .int .i64 xi, .string T, .slice qe lx je, .slice qi is.length ji, .slice qp lp jp] 39)) (w.heap.size + 1) 39 #[.string N, .int .i64 xa, .int .i64 xi, .string T, .slice qe lx je, .slice qi is.length ji, .slice qp lp jp] := by
    have := CellsAt.new (w.alloc (.cells #[.int .i64 ma, .int .i64 mi, .slice pe le ke] 24)) 39 #[.string N, .int .i64 xa, .int .i64 xi, .string T, .slice qe lx je, .slice qi is.length ji, .slice qp lp jp]
    rw [World.size_alloc] at this
    exact this
  obtain ⟨ii, hii, hz0, hz1, hz2⟩ := infoInt_parts
  go_enter Tryz.func41, Tryz.ntmps41
  go_wp2_with fail
  generalize (w.alloc (.cells #[.int .i64 ma, .int .i64 mi, .slice pe le ke] 24)).alloc (.cells #[.string N, .int .i64 xa, .int .i64 xi, .string T, .slice qe lx je, .slice qi is.length ji, .slice qp lp jp] 39) = w5 at B5 K5 D5 ⊢
  go_loopw [8, 9] (fun f i wr => ∃ (k : Nat) (acc : List Int), k ≤ is.length ∧ i = .int .i64 k ∧ acc.length = k ∧ wr.ownsRow w5.heap.size 3 1 f acc.length (acc.flatMap intC) ∧ Hid (AF [] is = AF acc (is.drop k)) ∧ Below w5.heap.size w5 wr) (fun _ i _ => is.length - (intOf i).toNat)
  case atStart => exact ⟨0, [], Nat.zero_le _, rfl, rfl, ⟨rfl, .inl ⟨rfl, rfl⟩⟩, by show AF [] is = AF [] (is.drop 0); rfl, Below.refl _ _⟩
  case round =>
    obtain ⟨k, acc, hk, rfl, hacc, hown, HCC, B⟩ := hrel
    have B' : Below w.heap.size w wr := B5.trans (B.mono B5.size)
    have HLK : Hid (acc.length = k) := hacc
    rw [hacc] at hown
    clear hacc
    obtain ⟨av, kv, rfl⟩ := own_form hown
    have DB := D5.below B D5.lt
    have d5 := DB.cell 5
    simp at d5
    by_cases hlt : k < is.length
    · obtain ⟨x, hx⟩ : ∃ x, is[k]? = some x := ⟨_, List.getElem?_eq_getElem hlt⟩
      rcases hrowI with h | ⟨b, off, rfl, hbn, hcells⟩
      · subst h; simp at hlt
      have c0 := (B'.cell (p := ⟨b, off + k * 4 + 0, none⟩) hbn).trans (hcells k _ hx 0 (by omega))
      have c1 := (B'.cell (p := ⟨b, off + k * 4 + 1, none⟩) hbn).trans (hcells k _ hx 1 (by omega))
      have c2 := (B'.cell (p := ⟨b, off + k * 4 + 2, none⟩) hbn).trans (hcells k _ hx 2 (by omega))
      have c3 := (B'.cell (p := ⟨b, off + k * 4 + 3, none⟩) hbn).trans (hcells k _ hx 3 (by omega))
      have HR : Hid (AF [] is = if (AO x).2 ≠ 0 then ([], (AO x).2) else AF (acc ++ [(AO x).1]) (is.drop (k + 1))) := by
        show AF [] is = _
        rw [HCC.out, drop_at hx, HAD.out]
      have HAx := HA.out x
      obtain ⟨xm, xn, xma, xmi⟩ := x
      dsimp only [Imp.cell] at c0 c1 c2 c3
      dsimp only at HAx
      rw [Nat.add_zero] at c0
      generalize AO ⟨xm, xn, xma, xmi⟩ = q at HR HAx
      obtain ⟨p, q⟩ := q
      dsimp only at HR HAx
      have HAX : Hid (∀ d os, _) := fun d os => HAx _ (B'.trans ((below_regrown wr d os).mono B'.size))
      clear HCC hcells hx HAx HAD HAN
      have KB := K5.below B K5.lt
      have d0 := KB.cell 0
      have d1 := KB.cell 1
      have d2 := KB.cell 2
      simp at d0 d1 d2
      have r0 := cell_regrown c0
      have r1 := cell_regrown c1
      have r2 := cell_regrown c2
      have r3 := cell_regrown c3
      have s0 := cell_regrown d0
      have s1 := cell_regrown d1
      have s2 := cell_regrown d2
      have s5 := cell_regrown d5
      clear KB DB
      go_wp2_with fail
      refine wp_region_quiet_below (by kernel_rfl) (by kernel_rfl) ?_
      repeat (quiet_step ((go_at_call 85; go_must (exact Calls.regrown_of (HAX.out _ _)))))
      refine wpQuiet_nil ?_
      intro w7 hw7
      obtain ⟨⟨dq, osq⟩, hw7⟩ := hw7
      have b7 := below_regrown wr dq osq
      rw [← hw7] at b7
      clear hw7
      have O7 := own_below hown b7
      have B7 := B'.trans (b7.mono B'.size)
      have E7 := B.trans (b7.mono B.size)
      clear b7 hown HAX c0 c1 c2 c3 d0 d1 d2 d5 r0 r1 r2 r3 s0 s1 s2 s5
      by_cases hq : q = 0
      · subst hq
        have HR' : Hid (AF [] is = AF (acc ++ [p]) (is.drop (k + 1))) := by
          show AF [] is = _
          rw [HR.out]; rfl
        have hb5 : w5.heap.size ≤ w7.heap.size := E7.size
        have ha7 : k < 7 := by omega
        clear HR
        go_wp2_with (at_builtin; refine wpList_append_lies _ rfl _ _ _ rfl w5.heap.size 3 ii _ 1 8 Tryz.underlying60 hii hz0 hz1 hz2 rfl (by omega) (.slice av k kv) k (acc.flatMap intC) rfl (O7.alloc _) ⟨w7.heap.size, 0, none⟩ 1 1 [.int .i64 p] rfl rfl (World.news_of_block (cs := #[.int .i64 p]) (t := 3) (fr := (0, 0)) (CellsAt.new w7 3 #[.int .i64 p])) (by simp [Value.oneCell']) (by omega) (by unfold maxLen; omega) (by omega) (by simp; omega) (w7.heap.size + 1) (by simp) ?_; intro g gc w8 hown8 hgrow hat hltg)
        refine ⟨⟨k + 1, acc ++ [p], by omega, by go_num, by rw [List.length_append, HLK.out]; rfl, ?_, HR'.out, ?_⟩, by simp [intOf]; omega⟩
        · rw [List.length_append, List.flatMap_append, HLK.out]
          exact hown8
        · exact (E7.alloc E7.size _).grown hgrow (by simp; omega) (fun j hj => own_block O7 j hj)
      · have hq' : (q != 0) = true := by simpa using hq
        have HR' : Hid (AF [] is = ([], q)) := by
          show AF [] is = _
          rw [HR.out, if_pos hq]
        clear HR hq
        go_wp2
        go_ret2
        exact ⟨⟨.slice none 0 0, by rw [HR'.out]; rfl, by rw [HR'.out]; exact ⟨none, 0, rfl, by simp, .inl rfl⟩⟩, B7⟩
    · obtain rfl : k = is.length := by omega
      have HZ : Hid (AF [] is = (acc, 0)) := by
        show AF [] is = (acc, 0)
        rw [HCC.out, List.drop_length, HAN.out]
      go_wp2
      go_ret2
      exact ⟨⟨_, by rw [HZ.out]; rfl, by rw [HZ.out]; exact own_ints (by rw [HLK.out]; exact hown) (by rw [HLK.out]; omega)⟩, B'⟩

end Go.Proofs.YtppmihnbpmkbnadGreat

/- The contracts of the document's CheckModules where no place is asked for, and of IsTwice. -/
namespace Go.Proofs.YtppmihnbpmkbnadGreat
open Go.RowKit Go.PlainAid

set_option maxRecDepth 100000

set_option maxHeartbeats 2000000 in
theorem checkPlain_any (l : List PV) (v : Value) (w : World) (hrow : IsPlcs w.heap.size w v l) (hfit : ∀ x ∈ l, x.mod.fits) :
    Calls Tryz.prog 83 #[v, .bool false, .bool false] w fun e w' => e = .returned (.int .i64 (plainErr (l.map PV.plc))) ∧ Below w.heap.size w w' := by
  have HC0 : Hid (∀ x ∈ l, ∀ W, Below w.heap.size w W → Calls Tryz.prog 132 #[x.modV] W fun e w' => e = .returned (.int .i64 (chkMod x.mod)) ∧ Below W.heap.size W w') := fun x hx W hb => checkModule_any x.mod x.modV W (((hrow.2 x hx).below hb).more hb.size |>.isMod) (hfit x hx)
  have hat := hrow.2
  obtain ⟨⟨a, cap, rfl, _, hrow⟩, _⟩ := hrow
  unfold plainErr
  rw [List.length_map]
  by_cases h8 : 8 < l.length
  · rw [if_pos h8]
    have h8' : (8 : Int) < l.length := by omega
    clear HC0 hat hrow
    go_enter Tryz.func83, Tryz.ntmps83
    go_wp2
    go_ret
    exact ⟨rfl, Below.refl _ _⟩
  · rw [if_neg h8]
    have h8' : decide ((8 : Int) < l.length) = false := decide_eq_false (by omega)
    have h8'' : decide (8 < l.length) = false := decide_eq_false (by omega)
    go_enter Tryz.func83, Tryz.ntmps83
    go_wp2_with fail
    go_loopw [7] (fun i wr => ∃ (k : Nat), k ≤ l.length ∧ i = .int .i64 k ∧ Hid (chkBy (fun _ => 0) (l.map PV.plc) = chkBy (fun _ => 0) ((l.drop k).map PV.plc)) ∧ Below w.heap.size w wr) (fun i _ => l.length - (intOf i).toNat)
    case atStart => exact ⟨0, Nat.zero_le _, rfl, by show chkBy _ (l.map PV.plc) = chkBy _ ((l.drop 0).map PV.plc); rfl, Below.refl _ _⟩
    case round =>
      obtain ⟨k, hk, rfl, HC, B⟩ := hrel
      by_cases hlt : k < l.length
      · obtain ⟨x, hx⟩ : ∃ x, l[k]? = some x := ⟨_, List.getElem?_eq_getElem hlt⟩
        rcases hrow with h | ⟨b, off, rfl, hbn, hcells⟩
        · subst h; simp at hlt
        have key := chkBy_step (fun _ => 0) x.plc ((l.drop (k + 1)).map PV.plc)
        have HR : Hid (chkBy (fun _ => 0) (l.map PV.plc) = chkBy (fun _ => 0) (x.plc :: (l.drop (k + 1)).map PV.plc)) := by
          show chkBy _ (l.map PV.plc) = _
          rw [HC.out, drop_at hx]
          rfl
        have HM : Hid (∀ W, Below w.heap.size w W → Calls Tryz.prog 132 #[x.modV] W fun e w' => e = .returned (.int .i64 (chkMod x.mod)) ∧ Below W.heap.size W w') := HC0.out x (List.mem_of_getElem? hx)
        obtain ⟨⟨pe, ke, e4, _⟩, ⟨pi, ki, e5, _⟩, ⟨pp, kp, e6, _⟩⟩ := hat x (List.mem_of_getElem? hx)
        have c0 := (B.cell (p := ⟨b, off + k * 8 + 0, none⟩) hbn).trans (hcells k _ hx 0 (by omega))
        have c1 := (B.cell (p := ⟨b, off + k * 8 + 1, none⟩) hbn).trans (hcells k _ hx 1 (by omega))
        have c2 := (B.cell (p := ⟨b, off + k * 8 + 2, none⟩) hbn).trans (hcells k _ hx 2 (by omega))
        have c3 := (B.cell (p := ⟨b, off + k * 8 + 3, none⟩) hbn).trans (hcells k _ hx 3 (by omega))
        have c4 := (B.cell (p := ⟨b, off + k * 8 + 4, none⟩) hbn).trans (hcells k _ hx 4 (by omega))
        have c5 := (B.cell (p := ⟨b, off + k * 8 + 5, none⟩) hbn).trans (hcells k _ hx 5 (by omega))
        have c6 := (B.cell (p := ⟨b, off + k * 8 + 6, none⟩) hbn).trans (hcells k _ hx 6 (by omega))
        clear HC HC0 hcells hx hat
        rw [show x.plc.mod = x.mod from rfl] at key
        generalize hcm : chkMod x.mod = cm at key HM
        generalize chkBy (fun _ => 0) (x.plc :: (l.drop (k + 1)).map PV.plc) = R at key HR
        clear hcm
        obtain ⟨⟨N, ma, mi, T, es, is, ps⟩, ve, vi, vp, fi⟩ := x
        dsimp only at e4 e5 e6
        subst e4 e5 e6
        dsimp only [PV.cell, PV.modV] at c0 c1 c2 c3 c4 c5 c6 HM
        rw [Nat.add_zero] at c0
        generalize es.length = le at *
        generalize is.length = li at *
        generalize ps.length = lp at *
        go_wp2_with fail
        refine (HM.out _ B).mono ?_
        rintro e w2 ⟨rfl, b2⟩
        have B2 := B.trans (b2.mono B.size)
        clear b2 c0 c1 c2 c3 c4 c5 c6 HM
        rcases key with ⟨h1, rfl⟩ | ⟨_, h2, _⟩ | ⟨rfl, _, rfl⟩
        · have h1' : (R != 0) = true := by simpa using h1
          clear h1
          go_wp2
          go_ret
          exact ⟨by rw [HR.out]; rfl, B2⟩
        · exact absurd rfl h2
        · go_wp2
          exact ⟨⟨k + 1, by omega, by go_num, HR.out, B2⟩, by simp [intOf]; omega⟩
      · obtain rfl : k = l.length := by omega
        have HZ : Hid (chkBy (fun _ => 0) (l.map PV.plc) = 0) := by
          show chkBy _ (l.map PV.plc) = 0
          rw [HC.out, List.drop_length]; rfl
        go_wp2
        go_ret
        exact ⟨by rw [HZ.out]; rfl, B⟩

theorem idx_lt {α : Type} {p : α → Bool} : ∀ (l : List α) (n k : Nat) (x : α), l[k]? = some x → p x = true → (decide (idxFrom p n l < ((n + k : Nat) : Int)) = (l.take k).any p)
  | [], _, _, _, h, _ => by simp at h
  | y :: l, n, 0, x, h, hx => by
    obtain rfl : y = x := by simpa using h
    have hs : idxFrom p n (y :: l) = if p y = true then (n : Int) else idxFrom p (n + 1) l := rfl
    rw [hs, hx]
    simp
  | y :: l, n, k + 1, x, h, hx => by
    have hs : idxFrom p n (y :: l) = if p y = true then (n : Int) else idxFrom p (n + 1) l := rfl
    rw [hs, List.take_succ_cons, List.any_cons]
    cases hy : p y
    · have ih := idx_lt l (n + 1) k x (by simpa using h) hx
      rw [Bool.false_or, ← ih, if_neg (by decide), show n + (k + 1) = n + 1 + k by omega]
    · rw [if_pos rfl, Bool.true_or]
      exact decide_eq_true (by omega)

set_option maxHeartbeats 2000000 in
theorem isTwice_any (l : List PV) (v : Value) (w : World) (hrow : RowOf 8 PV.cell w.heap.size w v l) :
    Calls Tryz.prog 40 #[v] w fun e w' => e = .returned (.bool (twiceFrom [] (l.map PV.plc))) ∧ Below w.heap.size w w' := by
  have HP : Hid (∀ W n, Below w.heap.size w W → Calls Tryz.prog 12 #[v, .string n] W fun e w' => e = .returned (.int .i64 (idxFrom (fun x : PV => x.mod.name == n) 0 l)) ∧ Below W.heap.size W w') := fun W n hb => placeOf_any l v n W ((hrow.below hb).more hb.size)
  obtain ⟨a, cap, rfl, hz, hrow⟩ := hrow
  have HC0 : Hid (twiceFrom [] (l.map PV.plc) = twiceFrom ((l.take 0).map (·.mod.name)) ((l.drop 0).map PV.plc)) := (rfl : _ = _)
  generalize twiceFrom [] (l.map PV.plc) = R at *
  go_enter Tryz.func40, Tryz.ntmps40
  go_wp2_with fail
  go_loopw [3] (fun i wr => ∃ (k : Nat), k ≤ l.length ∧ i = .int .i64 k ∧ Hid (R = twiceFrom ((l.take k).map (·.mod.name)) ((l.drop k).map PV.plc)) ∧ Below w.heap.size w wr) (fun i _ => l.length - (intOf i).toNat)
  case atStart => exact ⟨0, Nat.zero_le _, rfl, HC0.out, Below.refl _ _⟩
  case round =>
    obtain ⟨k, hk, rfl, HC, B⟩ := hrel
    clear HC0
    by_cases hlt : k < l.length
    · obtain ⟨x, hx⟩ : ∃ x, l[k]? = some x := ⟨_, List.getElem?_eq_getElem hlt⟩
      rcases hrow with h | ⟨b, off, rfl, hbn, hcells⟩
      · subst h; simp at hlt
      have c0 := (B.cell (p := ⟨b, off + k * 8 + 0, none⟩) hbn).trans (hcells k _ hx 0 (by omega))
      dsimp only [PV.cell] at c0
      rw [Nat.add_zero] at c0
      have hix := idx_lt (p := fun y : PV => y.mod.name == x.mod.name) l 0 k x hx ((Go.MapKept.bytes_beq _ _).2 rfl)
      have htk : (l.take (k + 1)).map (·.mod.name) = (l.take k).map (·.mod.name) ++ [x.mod.name] := by rw [List.take_add_one, hx]; simp
      have HR : Hid (R = (((l.take k).any fun y => y.mod.name == x.mod.name) || twiceFrom ((l.take (k + 1)).map (·.mod.name)) ((l.drop (k + 1)).map PV.plc))) := by
        show R = _
        rw [HC.out, drop_at hx, htk]
        have hs : ∀ met, twiceFrom met (x.plc :: (l.drop (k + 1)).map PV.plc) = ((met.any fun y => y == x.mod.name) || twiceFrom (met ++ [x.mod.name]) ((l.drop (k + 1)).map PV.plc)) := fun _ => rfl
        rw [List.map_cons, hs, List.any_map]
        rfl
      have HPX : Hid (Calls Tryz.prog 12 #[.slice (some ⟨b, off, none⟩) l.length cap, .string x.mod.name] wr fun e w' => e = .returned (.int .i64 (idxFrom (fun y : PV => y.mod.name == x.mod.name) 0 l)) ∧ Below wr.heap.size wr w') := HP.out wr x.mod.name B
      rw [Nat.zero_add] at hix
      clear hcells hx HC htk
      generalize ((l.take k).any fun y => y.mod.name == x.mod.name) = t at *
      generalize idxFrom (fun y : PV => y.mod.name == x.mod.name) 0 l = ix at *
      generalize x.mod.name = xn at *
      go_wp2_with fail
      refine HPX.out.mono ?_
      rintro e w2 ⟨rfl, b2⟩
      have B2 := B.trans (b2.mono B.size)
      clear HPX b2 c0
      cases t
      · have h1 : ¬ ix < (k : Int) := of_decide_eq_false hix
        have HR2 : Hid (R = twiceFrom ((l.take (k + 1)).map (·.mod.name)) ((l.drop (k + 1)).map PV.plc)) := by
          show R = _
          rw [HR.out, Bool.false_or]
        clear HR
        go_wp2
        exact ⟨⟨k + 1, by omega, by go_num, HR2.out, B2⟩, by simp [intOf]; omega⟩
      · have h1 : ix < (k : Int) := of_decide_eq_true hix
        have HR2 : Hid (R = true) := by
          show R = _
          rw [HR.out, Bool.true_or]
        clear HR
        go_wp2
        go_ret
        exact ⟨by rw [HR2.out]; rfl, B2⟩
    · obtain rfl : k = l.length := by omega
      have HZ : Hid (R = false) := by
        show R = false
        rw [HC.out, List.drop_length]; rfl
      go_wp2
      go_ret
      exact ⟨by rw [HZ.out]; rfl, B⟩

end Go.Proofs.YtppmihnbpmkbnadGreat

/- The contracts of the document's SizeOf, CheckModules (whole), CheckRegions. -/
namespace Go.Proofs.YtppmihnbpmkbnadGreat
open Go.RowKit Go.PlainAid

set_option maxRecDepth 100000

set_option maxHeartbeats 1000000 in
theorem sizeOf_any (N T : ByteArray) (ma mi : Int) (pe pi pp : Option Addr) (le ke li ki lp kp : Nat) (w : World) (hT : T.size ≤ 256) :
    Calls Tryz.prog 84 #[.agg #[.string N, .int .i64 ma, .int .i64 mi, .string T, .slice pe le ke, .slice pi li ki, .slice pp lp kp]] w fun e w' => e = .returned (.int .i64 (((T.size + 63) / 64 : Nat) : Int)) ∧ Below w.heap.size w w' := by
  have HB : Hid (Below w.heap.size w (w.alloc (.cells #[.string N, .int .i64 ma, .int .i64 mi, .string T, .slice pe le ke, .slice pi li ki, .slice pp lp kp] 39))) := (Below.refl _ _).alloc (Nat.le_refl _) _
  by_cases h : T.size % 64 = 0
  · have e1 : Hid (((T.size : Int)) / 64 = (((T.size + 63) / 64 : Nat) : Int)) := by show ((T.size : Int)) / 64 = (((T.size + 63) / 64 : Nat) : Int); omega
    have h1 : decide ((0 : Int) < (T.size : Int) % 64) = false := decide_eq_false (by omega)
    go_enter Tryz.func84, Tryz.ntmps84
    go_wp2
    go_ret
    refine ⟨?_, HB.out⟩
    show Ending.returned (.int .i64 ((T.size : Int) / 64)) = _
    rw [e1.out]
  · have e1 : Hid (((T.size : Int)) / 64 + 1 = (((T.size + 63) / 64 : Nat) : Int)) := by show ((T.size : Int)) / 64 + 1 = (((T.size + 63) / 64 : Nat) : Int); omega
    have h1 : (0 : Int) < (T.size : Int) % 64 := by omega
    go_enter Tryz.func84, Tryz.ntmps84
    go_wp2
    go_ret
    refine ⟨?_, HB.out⟩
    show Ending.returned (.int .i64 ((T.size : Int) / 64 + 1)) = _
    rw [e1.out]

set_option maxHeartbeats 2000000 in
theorem checkModules_whole (l : List PV) (v : Value) (w : World) (hrow : IsPlcs w.heap.size w v l) (hfit : ∀ x ∈ l, x.mod.fits) :
    Calls Tryz.prog 83 #[v, .bool true, .bool true] w fun e w' => e = .returned (.int .i64 (if 8 < l.length then 2 else chkBy outErr (l.map PV.plc))) ∧ Below w.heap.size w w' := by
  have HC0 : Hid (∀ x ∈ l, ∀ W, Below w.heap.size w W → Calls Tryz.prog 132 #[x.modV] W fun e w' => e = .returned (.int .i64 (chkMod x.mod)) ∧ Below W.heap.size W w') := fun x hx W hb => checkModule_any x.mod x.modV W (((hrow.2 x hx).below hb).more hb.size |>.isMod) (hfit x hx)
  have hat := hrow.2
  obtain ⟨⟨a, cap, rfl, _, hrow⟩, _⟩ := hrow
  by_cases h8 : 8 < l.length
  · rw [if_pos h8]
    have h8' : (8 : Int) < l.length := by omega
    clear HC0 hat hrow
    go_enter Tryz.func83, Tryz.ntmps83
    go_wp2
    go_ret
    exact ⟨rfl, Below.refl _ _⟩
  · rw [if_neg h8]
    have h8' : decide ((8 : Int) < l.length) = false := decide_eq_false (by omega)
    have h8'' : decide (8 < l.length) = false := decide_eq_false (by omega)
    go_enter Tryz.func83, Tryz.ntmps83
    go_wp2_with fail
    go_loopw [7] (fun i wr => ∃ (k : Nat), k ≤ l.length ∧ i = .int .i64 k ∧ Hid (chkBy outErr (l.map PV.plc) = chkBy outErr ((l.drop k).map PV.plc)) ∧ Below w.heap.size w wr) (fun i _ => l.length - (intOf i).toNat)
    case atStart => exact ⟨0, Nat.zero_le _, rfl, by show chkBy outErr (l.map PV.plc) = chkBy outErr ((l.drop 0).map PV.plc); rfl, Below.refl _ _⟩
    case round =>
      obtain ⟨k, hk, rfl, HC, B⟩ := hrel
      by_cases hlt : k < l.length
      · obtain ⟨x, hx⟩ : ∃ x, l[k]? = some x := ⟨_, List.getElem?_eq_getElem hlt⟩
        rcases hrow with h | ⟨b, off, rfl, hbn, hcells⟩
        · subst h; simp at hlt
        have key : (chkMod x.mod ≠ 0 ∧ chkBy outErr (x.plc :: (l.drop (k + 1)).map PV.plc) = chkMod x.mod) ∨ (chkMod x.mod = 0 ∧ betw x.first 0 (16 - (szM x.mod : Int)) = false ∧ chkBy outErr (x.plc :: (l.drop (k + 1)).map PV.plc) = 3) ∨ (chkMod x.mod = 0 ∧ betw x.first 0 (16 - (szM x.mod : Int)) = true ∧ chkBy outErr (x.plc :: (l.drop (k + 1)).map PV.plc) = chkBy outErr ((l.drop (k + 1)).map PV.plc)) := by
          have ho : outErr x.plc = if x.first < 0 ∨ 16 - (szM x.mod : Int) < x.first then 3 else 0 := rfl
          rcases chkBy_step outErr x.plc ((l.drop (k + 1)).map PV.plc) with ⟨h1, h2⟩ | ⟨h1, h2, h3⟩ | ⟨h1, h2, h3⟩
          · exact .inl ⟨h1, h2⟩
          · rw [ho] at h2 h3
            split at h2
            · rename_i hc
              rw [if_pos hc] at h3
              exact .inr (.inl ⟨h1, betw_false hc, h3⟩)
            · exact absurd rfl h2
          · rw [ho] at h2
            split at h2
            · exact absurd h2 (by decide)
            · rename_i hc
              exact .inr (.inr ⟨h1, betw_true (by omega) (by omega), h3⟩)
        have hsb : chkMod x.mod = 0 → szM x.mod ≤ 4 := fun h => (szM_bd h).2.1
        have HR : Hid (chkBy outErr (l.map PV.plc) = chkBy outErr (x.plc :: (l.drop (k + 1)).map PV.plc)) := by
          show chkBy outErr (l.map PV.plc) = _
          rw [HC.out, drop_at hx]; rfl
        have HM : Hid (∀ W, Below w.heap.size w W → Calls Tryz.prog 132 #[x.modV] W fun e w' => e = .returned (.int .i64 (chkMod x.mod)) ∧ Below W.heap.size W w') := HC0.out x (List.mem_of_getElem? hx)
        have HS : Hid (chkMod x.mod = 0 → ∀ W, Calls Tryz.prog 84 #[x.modV] W fun e w' => e = .returned (.int .i64 (szM x.mod : Int)) ∧ Below W.heap.size W w') := by
          intro h0 W
          obtain ⟨⟨pe, ke, e4, _⟩, ⟨pi, ki, e5, _⟩, ⟨pp, kp, e6, _⟩⟩ := hat x (List.mem_of_getElem? hx)
          unfold PV.modV
          rw [e4, e5, e6]
          exact sizeOf_any _ _ _ _ _ _ _ _ _ _ _ _ _ _ (szM_bd h0).2.2.1
        obtain ⟨⟨pe, ke, e4, _⟩, ⟨pi, ki, e5, _⟩, ⟨pp, kp, e6, _⟩⟩ := hat x (List.mem_of_getElem? hx)
        generalize hsz : szM x.mod = sz at *
        generalize hcm : chkMod x.mod = cm at *
        obtain ⟨⟨N, ma, mi, T, es, is, ps⟩, ve, vi, vp, fi⟩ := x
        dsimp only at e4 e5 e6
        subst e4 e5 e6
        have c0 := (B.cell (p := ⟨b, off + k * 8 + 0, none⟩) hbn).trans (hcells k _ hx 0 (by omega))
        have c1 := (B.cell (p := ⟨b, off + k * 8 + 1, none⟩) hbn).trans (hcells k _ hx 1 (by omega))
        have c2 := (B.cell (p := ⟨b, off + k * 8 + 2, none⟩) hbn).trans (hcells k _ hx 2 (by omega))
        have c3 := (B.cell (p := ⟨b, off + k * 8 + 3, none⟩) hbn).trans (hcells k _ hx 3 (by omega))
        have c4 := (B.cell (p := ⟨b, off + k * 8 + 4, none⟩) hbn).trans (hcells k _ hx 4 (by omega))
        have c5 := (B.cell (p := ⟨b, off + k * 8 + 5, none⟩) hbn).trans (hcells k _ hx 5 (by omega))
        have c6 := (B.cell (p := ⟨b, off + k * 8 + 6, none⟩) hbn).trans (hcells k _ hx 6 (by omega))
        have q0 := hcells k _ hx 0 (by omega)
        have q1 := hcells k _ hx 1 (by omega)
        have q2 := hcells k _ hx 2 (by omega)
        have q3 := hcells k _ hx 3 (by omega)
        have q4 := hcells k _ hx 4 (by omega)
        have q5 := hcells k _ hx 5 (by omega)
        have q6 := hcells k _ hx 6 (by omega)
        have q7 := hcells k _ hx 7 (by omega)
        dsimp only [PV.cell, PV.modV] at c0 c1 c2 c3 c4 c5 c6 q0 q1 q2 q3 q4 q5 q6 q7 HM HS
        rw [Nat.add_zero] at c0 q0
        clear HC HC0 hcells hx hat hsz hcm
        dsimp only at key
        generalize chkBy outErr (PV.plc ⟨⟨N, ma, mi, T, es, is, ps⟩, .slice pe es.length ke, .slice pi is.length ki, .slice pp ps.length kp, fi⟩ :: (l.drop (k + 1)).map PV.plc) = R at key HR
        generalize es.length = le at *
        generalize is.length = li at *
        generalize ps.length = lp at *
        go_wp2_with fail
        refine (HM.out _ B).mono ?_
        rintro e w2 ⟨rfl, b2⟩
        have B2 := B.trans (b2.mono B.size)
        clear b2 c0 c1 c2 c3 c4 c5 c6 HM
        rcases key with ⟨h1, rfl⟩ | ⟨rfl, h2, rfl⟩ | ⟨rfl, h2, rfl⟩
        · have h1' : (R != 0) = true := by simpa using h1
          go_wp2
          go_ret
          exact ⟨by rw [HR.out]; rfl, B2⟩
        all_goals
          have c0 := (B2.cell (p := ⟨b, off + k * 8, none⟩) hbn).trans q0
          have c1 := (B2.cell (p := ⟨b, off + k * 8 + 1, none⟩) hbn).trans q1
          have c2 := (B2.cell (p := ⟨b, off + k * 8 + 2, none⟩) hbn).trans q2
          have c3 := (B2.cell (p := ⟨b, off + k * 8 + 3, none⟩) hbn).trans q3
          have c4 := (B2.cell (p := ⟨b, off + k * 8 + 4, none⟩) hbn).trans q4
          have c5 := (B2.cell (p := ⟨b, off + k * 8 + 5, none⟩) hbn).trans q5
          have c6 := (B2.cell (p := ⟨b, off + k * 8 + 6, none⟩) hbn).trans q6
          have hs4 : sz ≤ 4 := by first | exact hsb rfl | exact hsb trivial | exact hsb
          clear q0 q1 q2 q3 q4 q5 q6 hsb
          go_wp2_with fail
          refine (HS.out (by first | rfl | trivial) _).mono ?_
          rintro e w3 ⟨rfl, b3⟩
          have B3 := B2.trans (b3.mono B2.size)
          have X7 := (B3.cell (p := ⟨b, off + k * 8 + 7, none⟩) hbn).trans q7
          clear b3 c0 c1 c2 c3 c4 c5 c6 q7 HS
        · go_wp2_with (go_at_call 81; refine (between_any _ _ _ _).mono ?_; rintro e w' ⟨rfl, rfl⟩)
          go_ret
          exact ⟨by rw [HR.out]; rfl, B3⟩
        · go_wp2_with (go_at_call 81; refine (between_any _ _ _ _).mono ?_; rintro e w' ⟨rfl, rfl⟩)
          exact ⟨⟨k + 1, by omega, by go_num, HR.out, B3⟩, by simp [intOf]; omega⟩
      · obtain rfl : k = l.length := by omega
        have HZ : Hid (chkBy outErr (l.map PV.plc) = 0) := by
          show chkBy outErr (l.map PV.plc) = 0
          rw [HC.out, List.drop_length]; rfl
        go_wp2
        go_ret
        exact ⟨by rw [HZ.out]; rfl, B⟩

end Go.Proofs.YtppmihnbpmkbnadGreat

/- The contract of the document's CheckRegions. -/
namespace Go.Proofs.YtppmihnbpmkbnadGreat
open Go.RowKit Go.PlainAid

set_option maxRecDepth 100000

set_option maxHeartbeats 4000000 in
theorem checkRegions_any (l : List PV) (v : Value) (w : World) (hrow : IsPlcs w.heap.size w v l) (hfit : ∀ x ∈ l, x.mod.fits) :
    Calls Tryz.prog 39 #[v] w fun e w' => e = .returned (.int .i64 (chkReg (l.map PV.plc))) ∧ Below w.heap.size w w' := by
  have HC : Hid (∀ W, Below w.heap.size w W → Calls Tryz.prog 83 #[v, .bool true, .bool true] W fun e w' => e = .returned (.int .i64 (if 8 < l.length then 2 else chkBy outErr (l.map PV.plc))) ∧ Below W.heap.size W w') := fun W hb => checkModules_whole l v W ((hrow.below hb).more hb.size) hfit
  have hat := hrow.2
  obtain ⟨⟨a, cap, rfl, hmax, hrow⟩, _⟩ := hrow
  have key := chkReg_cases (l.map PV.plc)
  rw [List.length_map] at key
  have hall : (∀ p ∈ l.map PV.plc, chkMod p.mod = 0 ∧ 0 ≤ p.first ∧ p.first + szM p.mod ≤ 16) → ∀ x ∈ l, x.mod.text.size ≤ 256 ∧ 0 ≤ x.first ∧ x.first + szM x.mod ≤ 16 := by
    intro h x hx
    obtain ⟨h1, h2, h3⟩ := h x.plc (List.mem_map_of_mem hx)
    exact ⟨(szM_bd h1).2.2.1, h2, h3⟩
  generalize chkReg (l.map PV.plc) = R at *
  generalize (if 8 < l.length then (2 : Int) else chkBy outErr (l.map PV.plc)) = cp at *
  go_enter Tryz.func39, Tryz.ntmps39
  go_wp2_with fail
  refine (HC.out w (Below.refl _ _)).mono ?_
  rintro e w2 ⟨rfl, B2⟩
  clear HC
  rcases key with ⟨h0, rfl⟩ | ⟨rfl, h0, rfl⟩
  · have h0' : (R != 0) = true := by simpa using h0
    clear hall hrow hat
    go_wp2
    go_ret
    exact ⟨rfl, B2⟩
  · have hx0 := hall h0
    clear hall h0
    go_wp2_with fail
    go_loopw [4] (fun i wr => ∃ (k m : Nat), i = .int .i64 k ∧ Hid (k = m + 1) ∧ ((l = [] ∧ m = 0) ∨ ∃ x, l[m]? = some x ∧ Hid (behind 0 (l.map PV.plc) = behind (x.first + szM x.mod) ((l.drop (m + 1)).map PV.plc))) ∧ Below w.heap.size w wr) (fun i _ => l.length + 1 - (intOf i).toNat)
    case atStart =>
      refine ⟨1, 0, rfl, (rfl : 1 = 0 + 1), ?_, B2⟩
      cases l with
      | nil => exact .inl ⟨rfl, rfl⟩
      | cons x l =>
        refine .inr ⟨x, rfl, ?_⟩
        show behind 0 ((x :: l).map PV.plc) = behind (x.first + szM x.mod) (((x :: l).drop (0 + 1)).map PV.plc)
        have h1 : behind 0 ((x :: l).map PV.plc) = (!decide (x.first < 0) && behind (x.first + szM x.mod) (l.map PV.plc)) := rfl
        have h2 := (hx0 x (by simp)).2.1
        rw [h1, decide_eq_false (by omega)]
        rfl
    case round =>
      obtain ⟨k, m, rfl, HK, hm, B⟩ := hrel
      rcases hm with ⟨rfl, rfl⟩ | ⟨x, hx, HC⟩
      · obtain rfl : k = 1 := HK.out
        go_wp2
        go_ret
        exact ⟨rfl, B⟩
      · have hml : m < l.length := (List.getElem?_eq_some_iff.1 hx).1
        by_cases hlt : k < l.length
        · obtain ⟨y, hy⟩ : ∃ y, l[k]? = some y := ⟨_, List.getElem?_eq_getElem hlt⟩
          rcases hrow with h | ⟨b, off, rfl, hbn, hcells⟩
          · subst h; simp at hlt
          have HR : Hid (behind 0 (l.map PV.plc) = (!decide (y.first < x.first + szM x.mod) && behind (y.first + szM y.mod) ((l.drop (k + 1)).map PV.plc))) := by
            show behind 0 (l.map PV.plc) = _
            rw [HC.out, ← HK.out, drop_at hy]; rfl
          have hxx := hx0 x (List.mem_of_getElem? hx)
          have HS : Hid (∀ W, Calls Tryz.prog 84 #[x.modV] W fun e w' => e = .returned (.int .i64 (szM x.mod : Int)) ∧ Below W.heap.size W w') := by
            intro W
            obtain ⟨⟨pe, ke, e4, _⟩, ⟨pi, ki, e5, _⟩, ⟨pp, kp, e6, _⟩⟩ := hat x (List.mem_of_getElem? hx)
            unfold PV.modV
            rw [e4, e5, e6]
            exact sizeOf_any _ _ _ _ _ _ _ _ _ _ _ _ _ _ hxx.1
          obtain ⟨⟨pe, ke, e4, _⟩, ⟨pi, ki, e5, _⟩, ⟨pp, kp, e6, _⟩⟩ := hat x (List.mem_of_getElem? hx)
          have d7 := (B.cell (p := ⟨b, off + k * 8 + 7, none⟩) hbn).trans (hcells k _ hy 7 (by omega))
          have HY : Hid (l[k]? = some y) := hy
          clear hy
          generalize hyf : y.first = yf at *
          generalize hsz : szM x.mod = sz at *
          obtain ⟨⟨N, ma, mi, T, es, is, ps⟩, ve, vi, vp, fi⟩ := x
          dsimp only at e4 e5 e6
          subst e4 e5 e6
          have c0 := (B.cell (p := ⟨b, off + m * 8 + 0, none⟩) hbn).trans (hcells m _ hx 0 (by omega))
          have c1 := (B.cell (p := ⟨b, off + m * 8 + 1, none⟩) hbn).trans (hcells m _ hx 1 (by omega))
          have c2 := (B.cell (p := ⟨b, off + m * 8 + 2, none⟩) hbn).trans (hcells m _ hx 2 (by omega))
          have c3 := (B.cell (p := ⟨b, off + m * 8 + 3, none⟩) hbn).trans (hcells m _ hx 3 (by omega))
          have c4 := (B.cell (p := ⟨b, off + m * 8 + 4, none⟩) hbn).trans (hcells m _ hx 4 (by omega))
          have c5 := (B.cell (p := ⟨b, off + m * 8 + 5, none⟩) hbn).trans (hcells m _ hx 5 (by omega))
          have c6 := (B.cell (p := ⟨b, off + m * 8 + 6, none⟩) hbn).trans (hcells m _ hx 6 (by omega))
          have c7 := (B.cell (p := ⟨b, off + m * 8 + 7, none⟩) hbn).trans (hcells m _ hx 7 (by omega))
          dsimp only [PV.cell] at c0 c1 c2 c3 c4 c5 c6 c7 d7
          dsimp only [PV.modV] at HS
          dsimp only at hxx HR
          rw [Nat.add_zero] at c0
          rw [hyf] at d7
          clear HC hcells hx hat hsz hx0
          obtain ⟨_, hf0, hf1⟩ := hxx
          generalize es.length = le at *
          generalize is.length = li at *
          generalize ps.length = lp at *
          have t0 := cell_regrown c0
          have t1 := cell_regrown c1
          have t2 := cell_regrown c2
          have t3 := cell_regrown c3
          have t4 := cell_regrown c4
          have t5 := cell_regrown c5
          have t6 := cell_regrown c6
          have t7 := cell_regrown c7
          have s7 := cell_regrown d7
          clear c0 c1 c2 c3 c4 c5 c6 c7 d7
          have hbd : l.length ≤ 9223372036854775807 := hmax
          have i0 : IntKind.i64.wrap ((k : Int) - 1) = (m : Int) := by have := HK.out; rw [i64_is]; unfold wrap64; omega
          have i1 : IntKind.i64.wrap (fi + (sz : Int)) = fi + (sz : Int) := by rw [i64_is]; unfold wrap64; omega
          by_cases hb : yf < fi + sz
          · have HZ : Hid (behind 0 (l.map PV.plc) = false) := by
              show behind 0 (l.map PV.plc) = false
              rw [HR.out, decide_eq_true hb]; rfl
            clear HR
            go_wp2_with fail
            refine wp_region_quiet_below (by kernel_rfl) (by kernel_rfl) ?_
            repeat (quiet_step ((go_at_call 84; go_must (exact Calls.regrown_of (HS.out _)))))
            refine wpQuiet_nil ?_
            intro _ hw'
            obtain ⟨⟨dq, osq⟩, hw''⟩ := hw'
            have B5 := B.trans ((below_regrown wr dq osq).mono B.size)
            rw [← hw''] at B5
            clear hw'' t0 t1 t2 t3 t4 t5 t6 t7 s7 HS
            go_wp2
            go_ret
            exact ⟨by rw [HZ.out]; rfl, B5⟩
          · have hb' : decide (yf < fi + sz) = false := decide_eq_false hb
            have HZ : Hid (behind 0 (l.map PV.plc) = behind (y.first + szM y.mod) ((l.drop (k + 1)).map PV.plc)) := by
              show behind 0 (l.map PV.plc) = _
              rw [HR.out, hb', hyf]; rfl
            clear HR
            go_wp2_with fail
            refine wp_region_quiet_below (by kernel_rfl) (by kernel_rfl) ?_
            repeat (quiet_step ((go_at_call 84; go_must (exact Calls.regrown_of (HS.out _)))))
            refine wpQuiet_nil ?_
            intro _ hw'
            obtain ⟨⟨dq, osq⟩, hw''⟩ := hw'
            have B5 := B.trans ((below_regrown wr dq osq).mono B.size)
            rw [← hw''] at B5
            clear hw'' t0 t1 t2 t3 t4 t5 t6 t7 s7 HS
            go_wp2
            exact ⟨⟨k + 1, k, by go_num, (rfl : k + 1 = k + 1), .inr ⟨y, HY.out, HZ.out⟩, B5⟩, by simp [intOf]; omega⟩
        · have hlt' : decide ((k : Int) < l.length) = false := decide_eq_false (by omega)
          have HZ : Hid (behind 0 (l.map PV.plc) = true) := by
            show behind 0 (l.map PV.plc) = true
            rw [HC.out, List.drop_eq_nil_of_le (by have := HK.out; omega)]; rfl
          go_wp2
          go_ret
          exact ⟨by rw [HZ.out]; rfl, B⟩

end Go.Proofs.YtppmihnbpmkbnadGreat
