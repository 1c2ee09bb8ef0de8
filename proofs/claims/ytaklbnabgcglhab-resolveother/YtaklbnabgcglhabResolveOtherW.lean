/- The walk of the law ResolveOther: it returns true. -/
import Derived.Test.YtaklbnabgcglhabOthA
namespace Go.Proofs.Ytaklbnabgcglhab.resolveOther
open Go.RowKit Go.PlainAid

set_option maxRecDepth 100000

theorem none_found (k : Ker) (l : List Plc) (i : Imp) (h : (findRes k l i).2 ≠ 0) : (findRes k l i).1 = 0 := by
  rcases findRes_cases k l i with ⟨_, e⟩ | ⟨_, _, e⟩ | ⟨_, _, e⟩
  · rw [e]
  · rw [e]
  rw [e] at h ⊢
  rcases addrOf_cases k l i with ⟨_, e2⟩ | ⟨t, _, ⟨_, e2⟩ | ⟨_, _, e2⟩ | ⟨_, _, ⟨_, e2⟩ | ⟨x, _, e2⟩⟩⟩
  · rw [e2]
  · rw [e2]
  · rw [e2]
  · rw [e2]
  · rw [e2] at h; exact absurd rfl h
theorem found_len (k : Ker) (l : List Plc) (i : Imp) (h : (findRes k l i).2 = 0) : l.length ≤ 8 := by
  rcases findRes_cases k l i with ⟨h1, e⟩ | ⟨_, h1, e⟩ | ⟨h1, _, e⟩
  · rw [e] at h; exact absurd h h1
  · rw [e] at h; exact absurd h h1
  · exact (chkFind_zero h1).2.1

set_option maxHeartbeats 8000000 in
theorem walk (K : Ker) (vk : Value) (l : List PV) (v : Value) (x : PV) (i : Imp) (w : World) (hK : IsKer w.heap.size w vk K) (hf : K.fits) (hrow : IsPlcs w.heap.size w v l) (hfit : ∀ x ∈ l, x.mod.fits) (hx : PlcAt w.heap.size w x) (hxf : x.mod.fits) (hi : i.fits) :
    Calls Try.prog 7 #[vk, v, x.val, .agg #[.string i.mod, .string i.name, .int .i64 i.major, .int .i64 i.minor]] w fun e w' => e = .returned (.bool true) ∧ Below w.heap.size w w' := by
  have HF : Hid (∀ W, Below w.heap.size w W → Calls Try.prog 16 #[vk, v, .agg #[.string i.mod, .string i.name, .int .i64 i.major, .int .i64 i.minor]] W fun e w' => e = .returned (.tuple #[.int .i64 (findRes K (l.map PV.plc) i).1, .int .i64 (findRes K (l.map PV.plc) i).2]) ∧ Below W.heap.size W w') :=
    fun W hb => find_any K vk l v i W ((hK.below hb).more hb.size) hf ((hrow.below hb).more hb.size) hfit hi
  have HG : Hid (∀ W v', Below w.heap.size w W → RowOf 8 PV.cell W.heap.size W v' (l ++ [x]) → Calls Try.prog 16 #[vk, v', .agg #[.string i.mod, .string i.name, .int .i64 i.major, .int .i64 i.minor]] W fun e w' => e = .returned (.tuple #[.int .i64 (findRes K (l.map PV.plc ++ [x.plc]) i).1, .int .i64 (findRes K (l.map PV.plc ++ [x.plc]) i).2]) ∧ Below W.heap.size W w') := by
    intro W v' hb hr
    have := find_any K vk (l ++ [x]) v' i W ((hK.below hb).more hb.size) hf ⟨hr, fun y hy => by
      rcases List.mem_append.1 hy with hy | hy
      · exact ((hrow.2 y hy).below hb).more hb.size
      · have : y = x := by simpa using hy
        subst this
        exact (hx.below hb).more hb.size⟩ (fun y hy => by
      rcases List.mem_append.1 hy with hy | hy
      · exact hfit y hy
      · have : y = x := by simpa using hy
        subst this
        exact hxf) hi
    rwa [List.map_append] at this
  have hmore := find_more K (l.map PV.plc) x.plc i
  have hnone := none_found K (l.map PV.plc) i
  have hlen := found_len K (l.map PV.plc) i
  rw [List.length_map] at hlen
  have HONE : Hid (∀ u ∈ l.flatMap pvC, u.oneCell' = true) := pvs_one hrow.2
  have HONX : Hid (∀ u ∈ pvC x, u.oneCell' = true) := pv_one hx
  obtain ⟨vke, rfl, hE⟩ := hK
  obtain ⟨pe, ke, rfl, _, _⟩ := hE
  obtain ⟨⟨a, cap, rfl, _, hrow⟩, hat⟩ := hrow
  obtain ⟨⟨qe, je, e4, _⟩, ⟨qi, ji, e5, _⟩, ⟨qp, jp, e6, _⟩⟩ := hx
  clear hf hfit hi hxf hat
  generalize findRes K (l.map PV.plc) i = FR at *
  generalize findRes K (l.map PV.plc ++ [x.plc]) i = FR2 at *
  obtain ⟨n, e⟩ := FR
  obtain ⟨n2, f⟩ := FR2
  obtain ⟨ii, hii, hz0, hz1, hz2⟩ := infoPlc_parts
  have HRX : Hid (∀ W base v', W.ownsRow base 56 8 v' (l.length + 1) (l.flatMap pvC ++ pvC x) → l.length ≤ 8 → RowOf 8 PV.cell W.heap.size W v' (l ++ [x])) := by
    intro W base v' h h8
    refine own_rows (C := pvC) (cells := PV.cell) (sz := 8) (fun _ => rfl) pvC_at (base := base) (e := 56) ?_ (by simp; omega)
    rw [List.length_append, List.flatMap_append]
    simpa using h
  generalize hLX : l ++ [x] = LX at HG HRX
  clear hLX
  obtain ⟨ma, mi, es⟩ := K
  obtain ⟨im, inm, ia, ib⟩ := i
  obtain ⟨⟨N, xa, xi, T, xs, is, ps⟩, ve, vi, vp, fi⟩ := x
  dsimp only [PV.val] at *
  subst e4 e5 e6
  dsimp only [pvC] at HRX HONX
  generalize es.length = le at *
  generalize xs.length = lx at *
  generalize is.length = li at *
  generalize ps.length = lp at *
  have BB : Below w.heap.size w (((w.alloc (.cells #[.int .i64 ma, .int .i64 mi, .slice pe le ke] 37)).alloc (.cells #[.string N, .int .i64 xa, .int .i64 xi, .string T, .slice qe lx je, .slice qi li ji, .slice qp lp jp, .int .i64 fi] 56)).alloc (.cells #[.string im, .string inm, .int .i64 ia, .int .i64 ib] 40)) := (((Below.refl _ _).alloc (Nat.le_refl _) _).alloc (by simp) _).alloc (by simp; omega) _
  have KB : CellsAt (((w.alloc (.cells #[.int .i64 ma, .int .i64 mi, .slice pe le ke] 37)).alloc (.cells #[.string N, .int .i64 xa, .int .i64 xi, .string T, .slice qe lx je, .slice qi li ji, .slice qp lp jp, .int .i64 fi] 56)).alloc (.cells #[.string im, .string inm, .int .i64 ia, .int .i64 ib] 40)) w.heap.size 37 #[.int .i64 ma, .int .i64 mi, .slice pe le ke] := ((CellsAt.new w 37 #[.int .i64 ma, .int .i64 mi, .slice pe le ke]).kept (World.grownBy_alloc _ _ none) (by simp)).kept (World.grownBy_alloc _ _ none) (by simp)
  have XB : CellsAt (((w.alloc (.cells #[.int .i64 ma, .int .i64 mi, .slice pe le ke] 37)).alloc (.cells #[.string N, .int .i64 xa, .int .i64 xi, .string T, .slice qe lx je, .slice qi li ji, .slice qp lp jp, .int .i64 fi] 56)).alloc (.cells #[.string im, .string inm, .int .i64 ia, .int .i64 ib] 40)) (w.heap.size + 1) 56 #[.string N, .int .i64 xa, .int .i64 xi, .string T, .slice qe lx je, .slice qi li ji, .slice qp lp jp, .int .i64 fi] := by
    have := (CellsAt.new (w.alloc (.cells #[.int .i64 ma, .int .i64 mi, .slice pe le ke] 37)) 56 #[.string N, .int .i64 xa, .int .i64 xi, .string T, .slice qe lx je, .slice qi li ji, .slice qp lp jp, .int .i64 fi]).kept (World.grownBy_alloc _ (.cells #[.string im, .string inm, .int .i64 ia, .int .i64 ib] 40) none) (by simp)
    rw [World.size_alloc] at this
    exact this
  have IB : CellsAt (((w.alloc (.cells #[.int .i64 ma, .int .i64 mi, .slice pe le ke] 37)).alloc (.cells #[.string N, .int .i64 xa, .int .i64 xi, .string T, .slice qe lx je, .slice qi li ji, .slice qp lp jp, .int .i64 fi] 56)).alloc (.cells #[.string im, .string inm, .int .i64 ia, .int .i64 ib] 40)) (w.heap.size + 1 + 1) 40 #[.string im, .string inm, .int .i64 ia, .int .i64 ib] := by
    have := CellsAt.new ((w.alloc (.cells #[.int .i64 ma, .int .i64 mi, .slice pe le ke] 37)).alloc (.cells #[.string N, .int .i64 xa, .int .i64 xi, .string T, .slice qe lx je, .slice qi li ji, .slice qp lp jp, .int .i64 fi] 56)) 40 #[.string im, .string inm, .int .i64 ia, .int .i64 ib]
    rw [World.size_alloc, World.size_alloc] at this
    exact this
  have HBB : Hid _ := BB
  have HKB : Hid _ := KB
  have HIB : Hid _ := IB
  have HXB : Hid _ := XB
  clear BB KB IB XB
  go_enter Try.func7, Try.ntmps7
  go_wp2_with fail
  refine (HF.out _ HBB.out).mono ?_
  rintro _ w1 ⟨rfl, b1⟩
  have KB := CellsAt.below HKB.out b1 (CellsAt.lt HKB.out)
  have IB := CellsAt.below HIB.out b1 (CellsAt.lt HIB.out)
  have XB := CellsAt.below HXB.out b1 (CellsAt.lt HXB.out)
  have BB := HBB.out.trans (b1.mono HBB.out.size)
  clear b1 HBB HKB HIB HXB HF
  go_wp2_with fail
  refine (resolveBegun_any _).mono ?_
  rintro _ w4 ⟨rfl, b4⟩
  have KB := CellsAt.below KB b4 (CellsAt.lt KB)
  have IB := CellsAt.below IB b4 (CellsAt.lt IB)
  have XB := CellsAt.below XB b4 (CellsAt.lt XB)
  have BB := BB.trans (b4.mono BB.size)
  clear b4
  by_cases he : e = 0
  · subst he
    have h8 := hlen rfl
    have hm := hmore rfl
    have HM : Hid (f ≠ 0 ∨ n2 = n) := hm
    clear hlen hmore hnone hm
    go_wp2_with fail
    refine wp_region_noPanic ?_
    refine wp_region_L (S := fun w' => CellsAt w' w.heap.size 37 #[.int .i64 ma, .int .i64 mi, .slice pe le ke] ∧ CellsAt w' (w.heap.size + 1) 56 #[.string N, .int .i64 xa, .int .i64 xi, .string T, .slice qe lx je, .slice qi li ji, .slice qp lp jp, .int .i64 fi] ∧ CellsAt w' (w.heap.size + 1 + 1) 40 #[.string im, .string inm, .int .i64 ia, .int .i64 ib]) (x := 13) (by kernel_rfl) ?_
    have Sw5 : CellsAt w4.drew w.heap.size 37 #[.int .i64 ma, .int .i64 mi, .slice pe le ke] ∧ CellsAt w4.drew (w.heap.size + 1) 56 #[.string N, .int .i64 xa, .int .i64 xi, .string T, .slice qe lx je, .slice qi li ji, .slice qp lp jp, .int .i64 fi] ∧ CellsAt w4.drew (w.heap.size + 1 + 1) 40 #[.string im, .string inm, .int .i64 ia, .int .i64 ib] := ⟨KB, XB, IB⟩
    have Bw5 : Below w.heap.size w w4.drew := BB.drew
    clear KB XB IB BB
    generalize w4.drew = w5 at Sw5 Bw5 ⊢
    have Ew5 : Below w5.heap.size w5 w5 := Below.refl _ _
    have z0 : w.heap.size < w5.heap.size := CellsAt.lt Sw5.1
    have z1 : w.heap.size + 1 < w5.heap.size := CellsAt.lt Sw5.2.1
    have z2 : w.heap.size + 1 + 1 < w5.heap.size := CellsAt.lt Sw5.2.2
    have zw : w.heap.size ≤ w5.heap.size := Bw5.size
    refine wpL_take 0 27 (.agg #[.int .i64 ma, .int .i64 mi, .slice pe le ke]) rfl (by kernel_rfl) (fun _ _ _ h => h) Sw5 rfl rfl (fun w' hSw => by (try dsimp only at hSw); have y0 := hSw.1.cell 0; have y1 := hSw.1.cell 1; have y2 := hSw.1.cell 2; simp at y0 y1 y2; go_simp) ?_
    simp only [List.setIfInBounds_toArray, List.set_cons_zero, List.set_cons_succ]
    refine wpL_take 2 29 (.slice a l.length cap) rfl (by kernel_rfl) (fun _ _ _ h => h) Sw5 rfl rfl (fun w' hSw => by (try dsimp only at hSw); go_simp) ?_
    simp only [List.setIfInBounds_toArray, List.set_cons_zero, List.set_cons_succ]
    refine wpL_take 4 31 (.agg #[.string N, .int .i64 xa, .int .i64 xi, .string T, .slice qe lx je, .slice qi li ji, .slice qp lp jp, .int .i64 fi]) rfl (by kernel_rfl) (fun _ _ _ h => h) Sw5 rfl rfl (fun w' hSw => by (try dsimp only at hSw); have y0 := hSw.2.1.cell 0; have y1 := hSw.2.1.cell 1; have y2 := hSw.2.1.cell 2; have y3 := hSw.2.1.cell 3; have y4 := hSw.2.1.cell 4; have y5 := hSw.2.1.cell 5; have y6 := hSw.2.1.cell 6; have y7 := hSw.2.1.cell 7; simp at y0 y1 y2 y3 y4 y5 y6 y7; go_simp) ?_
    simp only [List.setIfInBounds_toArray, List.set_cons_zero, List.set_cons_succ]
    refine wpL_take 7 34 (.agg #[.string im, .string inm, .int .i64 ia, .int .i64 ib]) rfl (by kernel_rfl) (fun _ _ _ h => h) Sw5 rfl rfl (fun w' hSw => by (try dsimp only at hSw); have y0 := hSw.2.2.cell 0; have y1 := hSw.2.2.cell 1; have y2 := hSw.2.2.cell 2; have y3 := hSw.2.2.cell 3; simp at y0 y1 y2 y3; go_simp) ?_
    simp only [List.setIfInBounds_toArray, List.set_cons_zero, List.set_cons_succ]
    by_cases hl0 : l = []
    · subst hl0
      rcases a with _ | a
      · skip
        refine wpL_two (i := 1) (j := 5) rfl rfl (by kernel_rfl) (fun K hK => ?_) (fun K hK => ?_)
        · skip
          go_simp
          have Su6 : CellsAt (w5.alloc (.cells #[] 56)) w.heap.size 37 #[.int .i64 ma, .int .i64 mi, .slice pe le ke] ∧ CellsAt (w5.alloc (.cells #[] 56)) (w.heap.size + 1) 56 #[.string N, .int .i64 xa, .int .i64 xi, .string T, .slice qe lx je, .slice qi li ji, .slice qp lp jp, .int .i64 fi] ∧ CellsAt (w5.alloc (.cells #[] 56)) (w.heap.size + 1 + 1) 40 #[.string im, .string inm, .int .i64 ia, .int .i64 ib] := ⟨CellsAt.kept Sw5.1 (World.grownBy_alloc _ _ none) (by simp), CellsAt.kept Sw5.2.1 (World.grownBy_alloc _ _ none) (by simp), CellsAt.kept Sw5.2.2 (World.grownBy_alloc _ _ none) (by simp)⟩
          have Bu6 : Below w.heap.size w (w5.alloc (.cells #[] 56)) := Bw5.alloc Bw5.size _
          have Eu6 : Below w5.heap.size w5 (w5.alloc (.cells #[] 56)) := Ew5.alloc Ew5.size _
          have O28 : (w5.alloc (.cells #[] 56)).ownsRow w5.heap.size 56 8 (.slice (some ⟨w5.heap.size, 0, none⟩) 0 0) 0 [] := own_empty Ew5.size
          refine hK.out _ _ Su6 (fun _ => ?_)
          clear hK K
          generalize w5.alloc (.cells #[] 56) = u6 at Su6 Bu6 Eu6 O28 ⊢
          refine wpL_two (i := 3) (j := 5) rfl rfl (by kernel_rfl) (fun K hK => ?_) (fun K hK => ?_)
          · skip
            go_simp
            refine hK.out _ _ Su6 (fun _ => ?_)
            clear hK K
            have O30 : u6.ownsRow w5.heap.size 56 8 (.slice (some ⟨w5.heap.size, 0, none⟩) 0 0) ([] : List PV).length (([] : List PV).flatMap pvC) := O28
            refine wpL_step (i := 5) rfl (by kernel_rfl) (fun K hK => ?_)
            go_simp
            have Su7 : CellsAt (u6.alloc (.cells #[.string N, .int .i64 xa, .int .i64 xi, .string T, .slice qe lx je, .slice qi li ji, .slice qp lp jp, .int .i64 fi] 56)) w.heap.size 37 #[.int .i64 ma, .int .i64 mi, .slice pe le ke] ∧ CellsAt (u6.alloc (.cells #[.string N, .int .i64 xa, .int .i64 xi, .string T, .slice qe lx je, .slice qi li ji, .slice qp lp jp, .int .i64 fi] 56)) (w.heap.size + 1) 56 #[.string N, .int .i64 xa, .int .i64 xi, .string T, .slice qe lx je, .slice qi li ji, .slice qp lp jp, .int .i64 fi] ∧ CellsAt (u6.alloc (.cells #[.string N, .int .i64 xa, .int .i64 xi, .string T, .slice qe lx je, .slice qi li ji, .slice qp lp jp, .int .i64 fi] 56)) (w.heap.size + 1 + 1) 40 #[.string im, .string inm, .int .i64 ia, .int .i64 ib] := ⟨CellsAt.kept Su6.1 (World.grownBy_alloc _ _ none) (by simp), CellsAt.kept Su6.2.1 (World.grownBy_alloc _ _ none) (by simp), CellsAt.kept Su6.2.2 (World.grownBy_alloc _ _ none) (by simp)⟩
            have Bu7 : Below w.heap.size w (u6.alloc (.cells #[.string N, .int .i64 xa, .int .i64 xi, .string T, .slice qe lx je, .slice qi li ji, .slice qp lp jp, .int .i64 fi] 56)) := Bu6.alloc Bu6.size _
            have Eu7 : Below w5.heap.size w5 (u6.alloc (.cells #[.string N, .int .i64 xa, .int .i64 xi, .string T, .slice qe lx je, .slice qi li ji, .slice qp lp jp, .int .i64 fi] 56)) := Eu6.alloc Eu6.size _
            have C32 : CellsAt (u6.alloc (.cells #[.string N, .int .i64 xa, .int .i64 xi, .string T, .slice qe lx je, .slice qi li ji, .slice qp lp jp, .int .i64 fi] 56)) u6.heap.size 56 #[.string N, .int .i64 xa, .int .i64 xi, .string T, .slice qe lx je, .slice qi li ji, .slice qp lp jp, .int .i64 fi] := CellsAt.new u6 _ _
            have O31 := O30.alloc (.cells #[.string N, .int .i64 xa, .int .i64 xi, .string T, .slice qe lx je, .slice qi li ji, .slice qp lp jp, .int .i64 fi] 56)
            clear O30
            have O30 := O31
            clear O31
            refine hK.out _ _ Su7 (fun _ => ?_)
            clear hK K
            generalize u6.alloc (.cells #[.string N, .int .i64 xa, .int .i64 xi, .string T, .slice qe lx je, .slice qi li ji, .slice qp lp jp, .int .i64 fi] 56) = u7 at Su7 Bu7 Eu7 C32 O30 ⊢
            refine wpL_step (i := 6) rfl (by kernel_rfl) (fun K hK => ?_)
            refine step_append_lies _ (by rfl) _ _ _ (by rfl) w5.heap.size 56 ii _ 8 128 Try.underlying38 hii hz0 hz1 hz2 rfl (by omega) (.slice (some ⟨w5.heap.size, 0, none⟩) 0 0) ([] : List PV).length (([] : List PV).flatMap pvC) (by rfl) O30 ⟨u6.heap.size, 0, none⟩ 1 1 [.string N, .int .i64 xa, .int .i64 xi, .string T, .slice qe lx je, .slice qi li ji, .slice qp lp jp, .int .i64 fi] (by rfl) (by rfl) (World.news_of_block (cs := #[.string N, .int .i64 xa, .int .i64 xi, .string T, .slice qe lx je, .slice qi li ji, .slice qp lp jp, .int .i64 fi]) (t := 56) (fr := (0, 0)) C32) HONX.out (by omega) (by unfold maxLen; omega) (by omega) Eu7.size u7.heap.size rfl ?_
            intro g7 c7 u20 own7 grow7 at7 lt7
            have Su20 : CellsAt u20 w.heap.size 37 #[.int .i64 ma, .int .i64 mi, .slice pe le ke] ∧ CellsAt u20 (w.heap.size + 1) 56 #[.string N, .int .i64 xa, .int .i64 xi, .string T, .slice qe lx je, .slice qi li ji, .slice qp lp jp, .int .i64 fi] ∧ CellsAt u20 (w.heap.size + 1 + 1) 40 #[.string im, .string inm, .int .i64 ia, .int .i64 ib] := ⟨keep_own Su7.1 O30 grow7 z0, keep_own Su7.2.1 O30 grow7 z1, keep_own Su7.2.2 O30 grow7 z2⟩
            have Bu20 : Below w.heap.size w u20 := Bu7.grown grow7 Bu7.size (fun k hk => Nat.le_trans zw (own_block O30 k hk))
            have hRow := HRX.out _ _ _ own7 h8
            have HROW : Hid _ := hRow
            refine hK.out _ _ Su20 (fun _ => ?_)
            clear hK K own7 grow7 at7 lt7 hRow O30 C32
            simp only [Act.put, List.setIfInBounds_toArray]
            try simp only [List.setIfInBounds_toArray, List.set_cons_zero, List.set_cons_succ]
            refine wpL_step (i := 8) rfl (by kernel_rfl) (fun K hK => ?_)
            go_simp
            refine (HG.out _ _ Bu20 HROW.out).mono ?_
            rintro _ u21 ⟨rfl, b8⟩
            have Su21 : CellsAt u21 w.heap.size 37 #[.int .i64 ma, .int .i64 mi, .slice pe le ke] ∧ CellsAt u21 (w.heap.size + 1) 56 #[.string N, .int .i64 xa, .int .i64 xi, .string T, .slice qe lx je, .slice qi li ji, .slice qp lp jp, .int .i64 fi] ∧ CellsAt u21 (w.heap.size + 1 + 1) 40 #[.string im, .string inm, .int .i64 ia, .int .i64 ib] := ⟨CellsAt.below Su20.1 b8 (CellsAt.lt Su20.1), CellsAt.below Su20.2.1 b8 (CellsAt.lt Su20.2.1), CellsAt.below Su20.2.2 b8 (CellsAt.lt Su20.2.2)⟩
            have Bu21 := Bu20.trans (b8.mono Bu20.size)
            go_simp
            refine hK.out _ _ Su21 (fun _ => ?_)
            clear hK K b8
            refine wpL_take 9 26 (.tuple #[.int .i64 n2, .int .i64 f]) rfl (by kernel_rfl) (fun _ _ _ h => h) Su21 rfl rfl (fun w' hSw => by clear hSw; go_simp) ?_
            simp only [List.setIfInBounds_toArray, List.set_cons_zero, List.set_cons_succ]
            refine wpL_take 10 36 (.int .i64 n2) rfl (by kernel_rfl) (fun _ _ _ h => h) Su21 rfl rfl (fun w' hSw => by clear hSw; go_simp) ?_
            simp only [List.setIfInBounds_toArray, List.set_cons_zero, List.set_cons_succ]
            refine wpL_take 11 37 (.int .i64 f) rfl (by kernel_rfl) (fun _ _ _ h => h) Su21 rfl rfl (fun w' hSw => by clear hSw; go_simp) ?_
            simp only [List.setIfInBounds_toArray, List.set_cons_zero, List.set_cons_succ]
            refine wpL_take 12 11 (.int .i64 n2) rfl (by kernel_rfl) (fun _ _ _ h => h) Su21 rfl rfl (fun w' hSw => by clear hSw; go_simp) ?_
            simp only [List.setIfInBounds_toArray, List.set_cons_zero, List.set_cons_succ]
            refine wpL_last (x := 13) rfl (by kernel_rfl) (by kernel_rfl) (fun K hK => ?_)
            go_simp
            refine hK.out _ _ ?_
            refine NoPanic.normal ?_
            clear hK K
            rcases HM.out with hq | hq
            · have hq' : (f != 0) = true := by simpa using hq
              clear hq HM
              go_wp2
              go_ret
              exact ⟨by first | rfl | simp, Bu21⟩
            · subst hq
              by_cases hf0 : f = 0
              · subst hf0
                go_wp2
                go_ret
                exact ⟨by first | rfl | simp, Bu21⟩
              · have hq' : (f != 0) = true := by simpa using hf0
                clear hf0 HM
                go_wp2
                go_ret
                exact ⟨by first | rfl | simp, Bu21⟩
          · skip
            go_simp
            have Su7 : CellsAt (u6.alloc (.cells #[.string N, .int .i64 xa, .int .i64 xi, .string T, .slice qe lx je, .slice qi li ji, .slice qp lp jp, .int .i64 fi] 56)) w.heap.size 37 #[.int .i64 ma, .int .i64 mi, .slice pe le ke] ∧ CellsAt (u6.alloc (.cells #[.string N, .int .i64 xa, .int .i64 xi, .string T, .slice qe lx je, .slice qi li ji, .slice qp lp jp, .int .i64 fi] 56)) (w.heap.size + 1) 56 #[.string N, .int .i64 xa, .int .i64 xi, .string T, .slice qe lx je, .slice qi li ji, .slice qp lp jp, .int .i64 fi] ∧ CellsAt (u6.alloc (.cells #[.string N, .int .i64 xa, .int .i64 xi, .string T, .slice qe lx je, .slice qi li ji, .slice qp lp jp, .int .i64 fi] 56)) (w.heap.size + 1 + 1) 40 #[.string im, .string inm, .int .i64 ia, .int .i64 ib] := ⟨CellsAt.kept Su6.1 (World.grownBy_alloc _ _ none) (by simp), CellsAt.kept Su6.2.1 (World.grownBy_alloc _ _ none) (by simp), CellsAt.kept Su6.2.2 (World.grownBy_alloc _ _ none) (by simp)⟩
            have Bu7 : Below w.heap.size w (u6.alloc (.cells #[.string N, .int .i64 xa, .int .i64 xi, .string T, .slice qe lx je, .slice qi li ji, .slice qp lp jp, .int .i64 fi] 56)) := Bu6.alloc Bu6.size _
            have Eu7 : Below w5.heap.size w5 (u6.alloc (.cells #[.string N, .int .i64 xa, .int .i64 xi, .string T, .slice qe lx je, .slice qi li ji, .slice qp lp jp, .int .i64 fi] 56)) := Eu6.alloc Eu6.size _
            have C32 : CellsAt (u6.alloc (.cells #[.string N, .int .i64 xa, .int .i64 xi, .string T, .slice qe lx je, .slice qi li ji, .slice qp lp jp, .int .i64 fi] 56)) u6.heap.size 56 #[.string N, .int .i64 xa, .int .i64 xi, .string T, .slice qe lx je, .slice qi li ji, .slice qp lp jp, .int .i64 fi] := CellsAt.new u6 _ _
            have hne : u6.heap.size ≠ w5.heap.size := Nat.ne_of_gt (own_lt O28)
            have O29 := O28.alloc (.cells #[.string N, .int .i64 xa, .int .i64 xi, .string T, .slice qe lx je, .slice qi li ji, .slice qp lp jp, .int .i64 fi] 56)
            clear O28
            have O28 := O29
            clear O29
            refine hK.out _ _ Su7 (fun _ => ?_)
            clear hK K
            generalize u6.alloc (.cells #[.string N, .int .i64 xa, .int .i64 xi, .string T, .slice qe lx je, .slice qi li ji, .slice qp lp jp, .int .i64 fi] 56) = u7 at Su7 Bu7 Eu7 C32 O28 ⊢
            refine wpL_step (i := 3) rfl (by kernel_rfl) (fun K hK => ?_)
            go_simp
            refine hK.out _ _ Su7 (fun _ => ?_)
            clear hK K
            have O30 : u7.ownsRow w5.heap.size 56 8 (.slice (some ⟨w5.heap.size, 0, none⟩) 0 0) ([] : List PV).length (([] : List PV).flatMap pvC) := O28
            refine wpL_step (i := 6) rfl (by kernel_rfl) (fun K hK => ?_)
            refine step_append_lies _ (by rfl) _ _ _ (by rfl) w5.heap.size 56 ii _ 8 128 Try.underlying38 hii hz0 hz1 hz2 rfl (by omega) (.slice (some ⟨w5.heap.size, 0, none⟩) 0 0) ([] : List PV).length (([] : List PV).flatMap pvC) (by rfl) O30 ⟨u6.heap.size, 0, none⟩ 1 1 [.string N, .int .i64 xa, .int .i64 xi, .string T, .slice qe lx je, .slice qi li ji, .slice qp lp jp, .int .i64 fi] (by rfl) (by rfl) (World.news_of_block (cs := #[.string N, .int .i64 xa, .int .i64 xi, .string T, .slice qe lx je, .slice qi li ji, .slice qp lp jp, .int .i64 fi]) (t := 56) (fr := (0, 0)) C32) HONX.out (by omega) (by unfold maxLen; omega) (by omega) Eu7.size u7.heap.size rfl ?_
            intro g7 c7 u20 own7 grow7 at7 lt7
            have Su20 : CellsAt u20 w.heap.size 37 #[.int .i64 ma, .int .i64 mi, .slice pe le ke] ∧ CellsAt u20 (w.heap.size + 1) 56 #[.string N, .int .i64 xa, .int .i64 xi, .string T, .slice qe lx je, .slice qi li ji, .slice qp lp jp, .int .i64 fi] ∧ CellsAt u20 (w.heap.size + 1 + 1) 40 #[.string im, .string inm, .int .i64 ia, .int .i64 ib] := ⟨keep_own Su7.1 O30 grow7 z0, keep_own Su7.2.1 O30 grow7 z1, keep_own Su7.2.2 O30 grow7 z2⟩
            have Bu20 : Below w.heap.size w u20 := Bu7.grown grow7 Bu7.size (fun k hk => Nat.le_trans zw (own_block O30 k hk))
            have hRow := HRX.out _ _ _ own7 h8
            have HROW : Hid _ := hRow
            refine hK.out _ _ Su20 (fun _ => ?_)
            clear hK K own7 grow7 at7 lt7 hRow O30 C32
            simp only [Act.put, List.setIfInBounds_toArray]
            try simp only [List.setIfInBounds_toArray, List.set_cons_zero, List.set_cons_succ]
            refine wpL_step (i := 8) rfl (by kernel_rfl) (fun K hK => ?_)
            go_simp
            refine (HG.out _ _ Bu20 HROW.out).mono ?_
            rintro _ u21 ⟨rfl, b8⟩
            have Su21 : CellsAt u21 w.heap.size 37 #[.int .i64 ma, .int .i64 mi, .slice pe le ke] ∧ CellsAt u21 (w.heap.size + 1) 56 #[.string N, .int .i64 xa, .int .i64 xi, .string T, .slice qe lx je, .slice qi li ji, .slice qp lp jp, .int .i64 fi] ∧ CellsAt u21 (w.heap.size + 1 + 1) 40 #[.string im, .string inm, .int .i64 ia, .int .i64 ib] := ⟨CellsAt.below Su20.1 b8 (CellsAt.lt Su20.1), CellsAt.below Su20.2.1 b8 (CellsAt.lt Su20.2.1), CellsAt.below Su20.2.2 b8 (CellsAt.lt Su20.2.2)⟩
            have Bu21 := Bu20.trans (b8.mono Bu20.size)
            go_simp
            refine hK.out _ _ Su21 (fun _ => ?_)
            clear hK K b8
            refine wpL_take 9 26 (.tuple #[.int .i64 n2, .int .i64 f]) rfl (by kernel_rfl) (fun _ _ _ h => h) Su21 rfl rfl (fun w' hSw => by clear hSw; go_simp) ?_
            simp only [List.setIfInBounds_toArray, List.set_cons_zero, List.set_cons_succ]
            refine wpL_take 10 36 (.int .i64 n2) rfl (by kernel_rfl) (fun _ _ _ h => h) Su21 rfl rfl (fun w' hSw => by clear hSw; go_simp) ?_
            simp only [List.setIfInBounds_toArray, List.set_cons_zero, List.set_cons_succ]
            refine wpL_take 11 37 (.int .i64 f) rfl (by kernel_rfl) (fun _ _ _ h => h) Su21 rfl rfl (fun w' hSw => by clear hSw; go_simp) ?_
            simp only [List.setIfInBounds_toArray, List.set_cons_zero, List.set_cons_succ]
            refine wpL_take 12 11 (.int .i64 n2) rfl (by kernel_rfl) (fun _ _ _ h => h) Su21 rfl rfl (fun w' hSw => by clear hSw; go_simp) ?_
            simp only [List.setIfInBounds_toArray, List.set_cons_zero, List.set_cons_succ]
            refine wpL_last (x := 13) rfl (by kernel_rfl) (by kernel_rfl) (fun K hK => ?_)
            go_simp
            refine hK.out _ _ ?_
            refine NoPanic.normal ?_
            clear hK K
            rcases HM.out with hq | hq
            · have hq' : (f != 0) = true := by simpa using hq
              clear hq HM
              go_wp2
              go_ret
              exact ⟨by first | rfl | simp, Bu21⟩
            · subst hq
              by_cases hf0 : f = 0
              · subst hf0
                go_wp2
                go_ret
                exact ⟨by first | rfl | simp, Bu21⟩
              · have hq' : (f != 0) = true := by simpa using hf0
                clear hf0 HM
                go_wp2
                go_ret
                exact ⟨by first | rfl | simp, Bu21⟩
        · skip
          go_simp
          have Su6 : CellsAt (w5.alloc (.cells #[.string N, .int .i64 xa, .int .i64 xi, .string T, .slice qe lx je, .slice qi li ji, .slice qp lp jp, .int .i64 fi] 56)) w.heap.size 37 #[.int .i64 ma, .int .i64 mi, .slice pe le ke] ∧ CellsAt (w5.alloc (.cells #[.string N, .int .i64 xa, .int .i64 xi, .string T, .slice qe lx je, .slice qi li ji, .slice qp lp jp, .int .i64 fi] 56)) (w.heap.size + 1) 56 #[.string N, .int .i64 xa, .int .i64 xi, .string T, .slice qe lx je, .slice qi li ji, .slice qp lp jp, .int .i64 fi] ∧ CellsAt (w5.alloc (.cells #[.string N, .int .i64 xa, .int .i64 xi, .string T, .slice qe lx je, .slice qi li ji, .slice qp lp jp, .int .i64 fi] 56)) (w.heap.size + 1 + 1) 40 #[.string im, .string inm, .int .i64 ia, .int .i64 ib] := ⟨CellsAt.kept Sw5.1 (World.grownBy_alloc _ _ none) (by simp), CellsAt.kept Sw5.2.1 (World.grownBy_alloc _ _ none) (by simp), CellsAt.kept Sw5.2.2 (World.grownBy_alloc _ _ none) (by simp)⟩
          have Bu6 : Below w.heap.size w (w5.alloc (.cells #[.string N, .int .i64 xa, .int .i64 xi, .string T, .slice qe lx je, .slice qi li ji, .slice qp lp jp, .int .i64 fi] 56)) := Bw5.alloc Bw5.size _
          have Eu6 : Below w5.heap.size w5 (w5.alloc (.cells #[.string N, .int .i64 xa, .int .i64 xi, .string T, .slice qe lx je, .slice qi li ji, .slice qp lp jp, .int .i64 fi] 56)) := Ew5.alloc Ew5.size _
          have C32 : CellsAt (w5.alloc (.cells #[.string N, .int .i64 xa, .int .i64 xi, .string T, .slice qe lx je, .slice qi li ji, .slice qp lp jp, .int .i64 fi] 56)) w5.heap.size 56 #[.string N, .int .i64 xa, .int .i64 xi, .string T, .slice qe lx je, .slice qi li ji, .slice qp lp jp, .int .i64 fi] := CellsAt.new w5 _ _
          refine hK.out _ _ Su6 (fun _ => ?_)
          clear hK K
          generalize w5.alloc (.cells #[.string N, .int .i64 xa, .int .i64 xi, .string T, .slice qe lx je, .slice qi li ji, .slice qp lp jp, .int .i64 fi] 56) = u6 at Su6 Bu6 Eu6 C32 ⊢
          refine wpL_step (i := 1) rfl (by kernel_rfl) (fun K hK => ?_)
          go_simp
          have Su7 : CellsAt (u6.alloc (.cells #[] 56)) w.heap.size 37 #[.int .i64 ma, .int .i64 mi, .slice pe le ke] ∧ CellsAt (u6.alloc (.cells #[] 56)) (w.heap.size + 1) 56 #[.string N, .int .i64 xa, .int .i64 xi, .string T, .slice qe lx je, .slice qi li ji, .slice qp lp jp, .int .i64 fi] ∧ CellsAt (u6.alloc (.cells #[] 56)) (w.heap.size + 1 + 1) 40 #[.string im, .string inm, .int .i64 ia, .int .i64 ib] := ⟨CellsAt.kept Su6.1 (World.grownBy_alloc _ _ none) (by simp), CellsAt.kept Su6.2.1 (World.grownBy_alloc _ _ none) (by simp), CellsAt.kept Su6.2.2 (World.grownBy_alloc _ _ none) (by simp)⟩
          have Bu7 : Below w.heap.size w (u6.alloc (.cells #[] 56)) := Bu6.alloc Bu6.size _
          have Eu7 : Below w5.heap.size w5 (u6.alloc (.cells #[] 56)) := Eu6.alloc Eu6.size _
          have O28 : (u6.alloc (.cells #[] 56)).ownsRow w5.heap.size 56 8 (.slice (some ⟨u6.heap.size, 0, none⟩) 0 0) 0 [] := own_empty Eu6.size
          have hne : w5.heap.size ≠ u6.heap.size := Nat.ne_of_lt (CellsAt.lt C32)
          have C33 : CellsAt (u6.alloc (.cells #[] 56)) w5.heap.size 56 #[.string N, .int .i64 xa, .int .i64 xi, .string T, .slice qe lx je, .slice qi li ji, .slice qp lp jp, .int .i64 fi] := CellsAt.kept C32 (World.grownBy_alloc _ _ none) (by simp)
          clear C32
          have C32 := C33
          clear C33
          refine hK.out _ _ Su7 (fun _ => ?_)
          clear hK K
          generalize u6.alloc (.cells #[] 56) = u7 at Su7 Bu7 Eu7 O28 C32 ⊢
          refine wpL_step (i := 3) rfl (by kernel_rfl) (fun K hK => ?_)
          go_simp
          refine hK.out _ _ Su7 (fun _ => ?_)
          clear hK K
          have O30 : u7.ownsRow w5.heap.size 56 8 (.slice (some ⟨u6.heap.size, 0, none⟩) 0 0) ([] : List PV).length (([] : List PV).flatMap pvC) := O28
          refine wpL_step (i := 6) rfl (by kernel_rfl) (fun K hK => ?_)
          refine step_append_lies _ (by rfl) _ _ _ (by rfl) w5.heap.size 56 ii _ 8 128 Try.underlying38 hii hz0 hz1 hz2 rfl (by omega) (.slice (some ⟨u6.heap.size, 0, none⟩) 0 0) ([] : List PV).length (([] : List PV).flatMap pvC) (by rfl) O30 ⟨w5.heap.size, 0, none⟩ 1 1 [.string N, .int .i64 xa, .int .i64 xi, .string T, .slice qe lx je, .slice qi li ji, .slice qp lp jp, .int .i64 fi] (by rfl) (by rfl) (World.news_of_block (cs := #[.string N, .int .i64 xa, .int .i64 xi, .string T, .slice qe lx je, .slice qi li ji, .slice qp lp jp, .int .i64 fi]) (t := 56) (fr := (0, 0)) C32) HONX.out (by omega) (by unfold maxLen; omega) (by omega) Eu7.size u7.heap.size rfl ?_
          intro g7 c7 u20 own7 grow7 at7 lt7
          have Su20 : CellsAt u20 w.heap.size 37 #[.int .i64 ma, .int .i64 mi, .slice pe le ke] ∧ CellsAt u20 (w.heap.size + 1) 56 #[.string N, .int .i64 xa, .int .i64 xi, .string T, .slice qe lx je, .slice qi li ji, .slice qp lp jp, .int .i64 fi] ∧ CellsAt u20 (w.heap.size + 1 + 1) 40 #[.string im, .string inm, .int .i64 ia, .int .i64 ib] := ⟨keep_own Su7.1 O30 grow7 z0, keep_own Su7.2.1 O30 grow7 z1, keep_own Su7.2.2 O30 grow7 z2⟩
          have Bu20 : Below w.heap.size w u20 := Bu7.grown grow7 Bu7.size (fun k hk => Nat.le_trans zw (own_block O30 k hk))
          have hRow := HRX.out _ _ _ own7 h8
          have HROW : Hid _ := hRow
          refine hK.out _ _ Su20 (fun _ => ?_)
          clear hK K own7 grow7 at7 lt7 hRow O30 C32
          simp only [Act.put, List.setIfInBounds_toArray]
          try simp only [List.setIfInBounds_toArray, List.set_cons_zero, List.set_cons_succ]
          refine wpL_step (i := 8) rfl (by kernel_rfl) (fun K hK => ?_)
          go_simp
          refine (HG.out _ _ Bu20 HROW.out).mono ?_
          rintro _ u21 ⟨rfl, b8⟩
          have Su21 : CellsAt u21 w.heap.size 37 #[.int .i64 ma, .int .i64 mi, .slice pe le ke] ∧ CellsAt u21 (w.heap.size + 1) 56 #[.string N, .int .i64 xa, .int .i64 xi, .string T, .slice qe lx je, .slice qi li ji, .slice qp lp jp, .int .i64 fi] ∧ CellsAt u21 (w.heap.size + 1 + 1) 40 #[.string im, .string inm, .int .i64 ia, .int .i64 ib] := ⟨CellsAt.below Su20.1 b8 (CellsAt.lt Su20.1), CellsAt.below Su20.2.1 b8 (CellsAt.lt Su20.2.1), CellsAt.below Su20.2.2 b8 (CellsAt.lt Su20.2.2)⟩
          have Bu21 := Bu20.trans (b8.mono Bu20.size)
          go_simp
          refine hK.out _ _ Su21 (fun _ => ?_)
          clear hK K b8
          refine wpL_take 9 26 (.tuple #[.int .i64 n2, .int .i64 f]) rfl (by kernel_rfl) (fun _ _ _ h => h) Su21 rfl rfl (fun w' hSw => by clear hSw; go_simp) ?_
          simp only [List.setIfInBounds_toArray, List.set_cons_zero, List.set_cons_succ]
          refine wpL_take 10 36 (.int .i64 n2) rfl (by kernel_rfl) (fun _ _ _ h => h) Su21 rfl rfl (fun w' hSw => by clear hSw; go_simp) ?_
          simp only [List.setIfInBounds_toArray, List.set_cons_zero, List.set_cons_succ]
          refine wpL_take 11 37 (.int .i64 f) rfl (by kernel_rfl) (fun _ _ _ h => h) Su21 rfl rfl (fun w' hSw => by clear hSw; go_simp) ?_
          simp only [List.setIfInBounds_toArray, List.set_cons_zero, List.set_cons_succ]
          refine wpL_take 12 11 (.int .i64 n2) rfl (by kernel_rfl) (fun _ _ _ h => h) Su21 rfl rfl (fun w' hSw => by clear hSw; go_simp) ?_
          simp only [List.setIfInBounds_toArray, List.set_cons_zero, List.set_cons_succ]
          refine wpL_last (x := 13) rfl (by kernel_rfl) (by kernel_rfl) (fun K hK => ?_)
          go_simp
          refine hK.out _ _ ?_
          refine NoPanic.normal ?_
          clear hK K
          rcases HM.out with hq | hq
          · have hq' : (f != 0) = true := by simpa using hq
            clear hq HM
            go_wp2
            go_ret
            exact ⟨by first | rfl | simp, Bu21⟩
          · subst hq
            by_cases hf0 : f = 0
            · subst hf0
              go_wp2
              go_ret
              exact ⟨by first | rfl | simp, Bu21⟩
            · have hq' : (f != 0) = true := by simpa using hf0
              clear hf0 HM
              go_wp2
              go_ret
              exact ⟨by first | rfl | simp, Bu21⟩
      · skip
        refine wpL_two (i := 1) (j := 5) rfl rfl (by kernel_rfl) (fun K hK => ?_) (fun K hK => ?_)
        · skip
          go_simp
          have Su6 : CellsAt (w5.alloc (.cells #[] 56)) w.heap.size 37 #[.int .i64 ma, .int .i64 mi, .slice pe le ke] ∧ CellsAt (w5.alloc (.cells #[] 56)) (w.heap.size + 1) 56 #[.string N, .int .i64 xa, .int .i64 xi, .string T, .slice qe lx je, .slice qi li ji, .slice qp lp jp, .int .i64 fi] ∧ CellsAt (w5.alloc (.cells #[] 56)) (w.heap.size + 1 + 1) 40 #[.string im, .string inm, .int .i64 ia, .int .i64 ib] := ⟨CellsAt.kept Sw5.1 (World.grownBy_alloc _ _ none) (by simp), CellsAt.kept Sw5.2.1 (World.grownBy_alloc _ _ none) (by simp), CellsAt.kept Sw5.2.2 (World.grownBy_alloc _ _ none) (by simp)⟩
          have Bu6 : Below w.heap.size w (w5.alloc (.cells #[] 56)) := Bw5.alloc Bw5.size _
          have Eu6 : Below w5.heap.size w5 (w5.alloc (.cells #[] 56)) := Ew5.alloc Ew5.size _
          have O28 : (w5.alloc (.cells #[] 56)).ownsRow w5.heap.size 56 8 (.slice (some ⟨w5.heap.size, 0, none⟩) 0 0) 0 [] := own_empty Ew5.size
          refine hK.out _ _ Su6 (fun _ => ?_)
          clear hK K
          generalize w5.alloc (.cells #[] 56) = u6 at Su6 Bu6 Eu6 O28 ⊢
          refine wpL_two (i := 3) (j := 5) rfl rfl (by kernel_rfl) (fun K hK => ?_) (fun K hK => ?_)
          · skip
            go_simp
            refine hK.out _ _ Su6 (fun _ => ?_)
            clear hK K
            have O30 : u6.ownsRow w5.heap.size 56 8 (.slice (some ⟨w5.heap.size, 0, none⟩) 0 0) ([] : List PV).length (([] : List PV).flatMap pvC) := O28
            refine wpL_step (i := 5) rfl (by kernel_rfl) (fun K hK => ?_)
            go_simp
            have Su7 : CellsAt (u6.alloc (.cells #[.string N, .int .i64 xa, .int .i64 xi, .string T, .slice qe lx je, .slice qi li ji, .slice qp lp jp, .int .i64 fi] 56)) w.heap.size 37 #[.int .i64 ma, .int .i64 mi, .slice pe le ke] ∧ CellsAt (u6.alloc (.cells #[.string N, .int .i64 xa, .int .i64 xi, .string T, .slice qe lx je, .slice qi li ji, .slice qp lp jp, .int .i64 fi] 56)) (w.heap.size + 1) 56 #[.string N, .int .i64 xa, .int .i64 xi, .string T, .slice qe lx je, .slice qi li ji, .slice qp lp jp, .int .i64 fi] ∧ CellsAt (u6.alloc (.cells #[.string N, .int .i64 xa, .int .i64 xi, .string T, .slice qe lx je, .slice qi li ji, .slice qp lp jp, .int .i64 fi] 56)) (w.heap.size + 1 + 1) 40 #[.string im, .string inm, .int .i64 ia, .int .i64 ib] := ⟨CellsAt.kept Su6.1 (World.grownBy_alloc _ _ none) (by simp), CellsAt.kept Su6.2.1 (World.grownBy_alloc _ _ none) (by simp), CellsAt.kept Su6.2.2 (World.grownBy_alloc _ _ none) (by simp)⟩
            have Bu7 : Below w.heap.size w (u6.alloc (.cells #[.string N, .int .i64 xa, .int .i64 xi, .string T, .slice qe lx je, .slice qi li ji, .slice qp lp jp, .int .i64 fi] 56)) := Bu6.alloc Bu6.size _
            have Eu7 : Below w5.heap.size w5 (u6.alloc (.cells #[.string N, .int .i64 xa, .int .i64 xi, .string T, .slice qe lx je, .slice qi li ji, .slice qp lp jp, .int .i64 fi] 56)) := Eu6.alloc Eu6.size _
            have C32 : CellsAt (u6.alloc (.cells #[.string N, .int .i64 xa, .int .i64 xi, .string T, .slice qe lx je, .slice qi li ji, .slice qp lp jp, .int .i64 fi] 56)) u6.heap.size 56 #[.string N, .int .i64 xa, .int .i64 xi, .string T, .slice qe lx je, .slice qi li ji, .slice qp lp jp, .int .i64 fi] := CellsAt.new u6 _ _
            have O31 := O30.alloc (.cells #[.string N, .int .i64 xa, .int .i64 xi, .string T, .slice qe lx je, .slice qi li ji, .slice qp lp jp, .int .i64 fi] 56)
            clear O30
            have O30 := O31
            clear O31
            refine hK.out _ _ Su7 (fun _ => ?_)
            clear hK K
            generalize u6.alloc (.cells #[.string N, .int .i64 xa, .int .i64 xi, .string T, .slice qe lx je, .slice qi li ji, .slice qp lp jp, .int .i64 fi] 56) = u7 at Su7 Bu7 Eu7 C32 O30 ⊢
            refine wpL_step (i := 6) rfl (by kernel_rfl) (fun K hK => ?_)
            refine step_append_lies _ (by rfl) _ _ _ (by rfl) w5.heap.size 56 ii _ 8 128 Try.underlying38 hii hz0 hz1 hz2 rfl (by omega) (.slice (some ⟨w5.heap.size, 0, none⟩) 0 0) ([] : List PV).length (([] : List PV).flatMap pvC) (by rfl) O30 ⟨u6.heap.size, 0, none⟩ 1 1 [.string N, .int .i64 xa, .int .i64 xi, .string T, .slice qe lx je, .slice qi li ji, .slice qp lp jp, .int .i64 fi] (by rfl) (by rfl) (World.news_of_block (cs := #[.string N, .int .i64 xa, .int .i64 xi, .string T, .slice qe lx je, .slice qi li ji, .slice qp lp jp, .int .i64 fi]) (t := 56) (fr := (0, 0)) C32) HONX.out (by omega) (by unfold maxLen; omega) (by omega) Eu7.size u7.heap.size rfl ?_
            intro g7 c7 u20 own7 grow7 at7 lt7
            have Su20 : CellsAt u20 w.heap.size 37 #[.int .i64 ma, .int .i64 mi, .slice pe le ke] ∧ CellsAt u20 (w.heap.size + 1) 56 #[.string N, .int .i64 xa, .int .i64 xi, .string T, .slice qe lx je, .slice qi li ji, .slice qp lp jp, .int .i64 fi] ∧ CellsAt u20 (w.heap.size + 1 + 1) 40 #[.string im, .string inm, .int .i64 ia, .int .i64 ib] := ⟨keep_own Su7.1 O30 grow7 z0, keep_own Su7.2.1 O30 grow7 z1, keep_own Su7.2.2 O30 grow7 z2⟩
            have Bu20 : Below w.heap.size w u20 := Bu7.grown grow7 Bu7.size (fun k hk => Nat.le_trans zw (own_block O30 k hk))
            have hRow := HRX.out _ _ _ own7 h8
            have HROW : Hid _ := hRow
            refine hK.out _ _ Su20 (fun _ => ?_)
            clear hK K own7 grow7 at7 lt7 hRow O30 C32
            simp only [Act.put, List.setIfInBounds_toArray]
            try simp only [List.setIfInBounds_toArray, List.set_cons_zero, List.set_cons_succ]
            refine wpL_step (i := 8) rfl (by kernel_rfl) (fun K hK => ?_)
            go_simp
            refine (HG.out _ _ Bu20 HROW.out).mono ?_
            rintro _ u21 ⟨rfl, b8⟩
            have Su21 : CellsAt u21 w.heap.size 37 #[.int .i64 ma, .int .i64 mi, .slice pe le ke] ∧ CellsAt u21 (w.heap.size + 1) 56 #[.string N, .int .i64 xa, .int .i64 xi, .string T, .slice qe lx je, .slice qi li ji, .slice qp lp jp, .int .i64 fi] ∧ CellsAt u21 (w.heap.size + 1 + 1) 40 #[.string im, .string inm, .int .i64 ia, .int .i64 ib] := ⟨CellsAt.below Su20.1 b8 (CellsAt.lt Su20.1), CellsAt.below Su20.2.1 b8 (CellsAt.lt Su20.2.1), CellsAt.below Su20.2.2 b8 (CellsAt.lt Su20.2.2)⟩
            have Bu21 := Bu20.trans (b8.mono Bu20.size)
            go_simp
            refine hK.out _ _ Su21 (fun _ => ?_)
            clear hK K b8
            refine wpL_take 9 26 (.tuple #[.int .i64 n2, .int .i64 f]) rfl (by kernel_rfl) (fun _ _ _ h => h) Su21 rfl rfl (fun w' hSw => by clear hSw; go_simp) ?_
            simp only [List.setIfInBounds_toArray, List.set_cons_zero, List.set_cons_succ]
            refine wpL_take 10 36 (.int .i64 n2) rfl (by kernel_rfl) (fun _ _ _ h => h) Su21 rfl rfl (fun w' hSw => by clear hSw; go_simp) ?_
            simp only [List.setIfInBounds_toArray, List.set_cons_zero, List.set_cons_succ]
            refine wpL_take 11 37 (.int .i64 f) rfl (by kernel_rfl) (fun _ _ _ h => h) Su21 rfl rfl (fun w' hSw => by clear hSw; go_simp) ?_
            simp only [List.setIfInBounds_toArray, List.set_cons_zero, List.set_cons_succ]
            refine wpL_take 12 11 (.int .i64 n2) rfl (by kernel_rfl) (fun _ _ _ h => h) Su21 rfl rfl (fun w' hSw => by clear hSw; go_simp) ?_
            simp only [List.setIfInBounds_toArray, List.set_cons_zero, List.set_cons_succ]
            refine wpL_last (x := 13) rfl (by kernel_rfl) (by kernel_rfl) (fun K hK => ?_)
            go_simp
            refine hK.out _ _ ?_
            refine NoPanic.normal ?_
            clear hK K
            rcases HM.out with hq | hq
            · have hq' : (f != 0) = true := by simpa using hq
              clear hq HM
              go_wp2
              go_ret
              exact ⟨by first | rfl | simp, Bu21⟩
            · subst hq
              by_cases hf0 : f = 0
              · subst hf0
                go_wp2
                go_ret
                exact ⟨by first | rfl | simp, Bu21⟩
              · have hq' : (f != 0) = true := by simpa using hf0
                clear hf0 HM
                go_wp2
                go_ret
                exact ⟨by first | rfl | simp, Bu21⟩
          · skip
            go_simp
            have Su7 : CellsAt (u6.alloc (.cells #[.string N, .int .i64 xa, .int .i64 xi, .string T, .slice qe lx je, .slice qi li ji, .slice qp lp jp, .int .i64 fi] 56)) w.heap.size 37 #[.int .i64 ma, .int .i64 mi, .slice pe le ke] ∧ CellsAt (u6.alloc (.cells #[.string N, .int .i64 xa, .int .i64 xi, .string T, .slice qe lx je, .slice qi li ji, .slice qp lp jp, .int .i64 fi] 56)) (w.heap.size + 1) 56 #[.string N, .int .i64 xa, .int .i64 xi, .string T, .slice qe lx je, .slice qi li ji, .slice qp lp jp, .int .i64 fi] ∧ CellsAt (u6.alloc (.cells #[.string N, .int .i64 xa, .int .i64 xi, .string T, .slice qe lx je, .slice qi li ji, .slice qp lp jp, .int .i64 fi] 56)) (w.heap.size + 1 + 1) 40 #[.string im, .string inm, .int .i64 ia, .int .i64 ib] := ⟨CellsAt.kept Su6.1 (World.grownBy_alloc _ _ none) (by simp), CellsAt.kept Su6.2.1 (World.grownBy_alloc _ _ none) (by simp), CellsAt.kept Su6.2.2 (World.grownBy_alloc _ _ none) (by simp)⟩
            have Bu7 : Below w.heap.size w (u6.alloc (.cells #[.string N, .int .i64 xa, .int .i64 xi, .string T, .slice qe lx je, .slice qi li ji, .slice qp lp jp, .int .i64 fi] 56)) := Bu6.alloc Bu6.size _
            have Eu7 : Below w5.heap.size w5 (u6.alloc (.cells #[.string N, .int .i64 xa, .int .i64 xi, .string T, .slice qe lx je, .slice qi li ji, .slice qp lp jp, .int .i64 fi] 56)) := Eu6.alloc Eu6.size _
            have C32 : CellsAt (u6.alloc (.cells #[.string N, .int .i64 xa, .int .i64 xi, .string T, .slice qe lx je, .slice qi li ji, .slice qp lp jp, .int .i64 fi] 56)) u6.heap.size 56 #[.string N, .int .i64 xa, .int .i64 xi, .string T, .slice qe lx je, .slice qi li ji, .slice qp lp jp, .int .i64 fi] := CellsAt.new u6 _ _
            have hne : u6.heap.size ≠ w5.heap.size := Nat.ne_of_gt (own_lt O28)
            have O29 := O28.alloc (.cells #[.string N, .int .i64 xa, .int .i64 xi, .string T, .slice qe lx je, .slice qi li ji, .slice qp lp jp, .int .i64 fi] 56)
            clear O28
            have O28 := O29
            clear O29
            refine hK.out _ _ Su7 (fun _ => ?_)
            clear hK K
            generalize u6.alloc (.cells #[.string N, .int .i64 xa, .int .i64 xi, .string T, .slice qe lx je, .slice qi li ji, .slice qp lp jp, .int .i64 fi] 56) = u7 at Su7 Bu7 Eu7 C32 O28 ⊢
            refine wpL_step (i := 3) rfl (by kernel_rfl) (fun K hK => ?_)
            go_simp
            refine hK.out _ _ Su7 (fun _ => ?_)
            clear hK K
            have O30 : u7.ownsRow w5.heap.size 56 8 (.slice (some ⟨w5.heap.size, 0, none⟩) 0 0) ([] : List PV).length (([] : List PV).flatMap pvC) := O28
            refine wpL_step (i := 6) rfl (by kernel_rfl) (fun K hK => ?_)
            refine step_append_lies _ (by rfl) _ _ _ (by rfl) w5.heap.size 56 ii _ 8 128 Try.underlying38 hii hz0 hz1 hz2 rfl (by omega) (.slice (some ⟨w5.heap.size, 0, none⟩) 0 0) ([] : List PV).length (([] : List PV).flatMap pvC) (by rfl) O30 ⟨u6.heap.size, 0, none⟩ 1 1 [.string N, .int .i64 xa, .int .i64 xi, .string T, .slice qe lx je, .slice qi li ji, .slice qp lp jp, .int .i64 fi] (by rfl) (by rfl) (World.news_of_block (cs := #[.string N, .int .i64 xa, .int .i64 xi, .string T, .slice qe lx je, .slice qi li ji, .slice qp lp jp, .int .i64 fi]) (t := 56) (fr := (0, 0)) C32) HONX.out (by omega) (by unfold maxLen; omega) (by omega) Eu7.size u7.heap.size rfl ?_
            intro g7 c7 u20 own7 grow7 at7 lt7
            have Su20 : CellsAt u20 w.heap.size 37 #[.int .i64 ma, .int .i64 mi, .slice pe le ke] ∧ CellsAt u20 (w.heap.size + 1) 56 #[.string N, .int .i64 xa, .int .i64 xi, .string T, .slice qe lx je, .slice qi li ji, .slice qp lp jp, .int .i64 fi] ∧ CellsAt u20 (w.heap.size + 1 + 1) 40 #[.string im, .string inm, .int .i64 ia, .int .i64 ib] := ⟨keep_own Su7.1 O30 grow7 z0, keep_own Su7.2.1 O30 grow7 z1, keep_own Su7.2.2 O30 grow7 z2⟩
            have Bu20 : Below w.heap.size w u20 := Bu7.grown grow7 Bu7.size (fun k hk => Nat.le_trans zw (own_block O30 k hk))
            have hRow := HRX.out _ _ _ own7 h8
            have HROW : Hid _ := hRow
            refine hK.out _ _ Su20 (fun _ => ?_)
            clear hK K own7 grow7 at7 lt7 hRow O30 C32
            simp only [Act.put, List.setIfInBounds_toArray]
            try simp only [List.setIfInBounds_toArray, List.set_cons_zero, List.set_cons_succ]
            refine wpL_step (i := 8) rfl (by kernel_rfl) (fun K hK => ?_)
            go_simp
            refine (HG.out _ _ Bu20 HROW.out).mono ?_
            rintro _ u21 ⟨rfl, b8⟩
            have Su21 : CellsAt u21 w.heap.size 37 #[.int .i64 ma, .int .i64 mi, .slice pe le ke] ∧ CellsAt u21 (w.heap.size + 1) 56 #[.string N, .int .i64 xa, .int .i64 xi, .string T, .slice qe lx je, .slice qi li ji, .slice qp lp jp, .int .i64 fi] ∧ CellsAt u21 (w.heap.size + 1 + 1) 40 #[.string im, .string inm, .int .i64 ia, .int .i64 ib] := ⟨CellsAt.below Su20.1 b8 (CellsAt.lt Su20.1), CellsAt.below Su20.2.1 b8 (CellsAt.lt Su20.2.1), CellsAt.below Su20.2.2 b8 (CellsAt.lt Su20.2.2)⟩
            have Bu21 := Bu20.trans (b8.mono Bu20.size)
            go_simp
            refine hK.out _ _ Su21 (fun _ => ?_)
            clear hK K b8
            refine wpL_take 9 26 (.tuple #[.int .i64 n2, .int .i64 f]) rfl (by kernel_rfl) (fun _ _ _ h => h) Su21 rfl rfl (fun w' hSw => by clear hSw; go_simp) ?_
            simp only [List.setIfInBounds_toArray, List.set_cons_zero, List.set_cons_succ]
            refine wpL_take 10 36 (.int .i64 n2) rfl (by kernel_rfl) (fun _ _ _ h => h) Su21 rfl rfl (fun w' hSw => by clear hSw; go_simp) ?_
            simp only [List.setIfInBounds_toArray, List.set_cons_zero, List.set_cons_succ]
            refine wpL_take 11 37 (.int .i64 f) rfl (by kernel_rfl) (fun _ _ _ h => h) Su21 rfl rfl (fun w' hSw => by clear hSw; go_simp) ?_
            simp only [List.setIfInBounds_toArray, List.set_cons_zero, List.set_cons_succ]
            refine wpL_take 12 11 (.int .i64 n2) rfl (by kernel_rfl) (fun _ _ _ h => h) Su21 rfl rfl (fun w' hSw => by clear hSw; go_simp) ?_
            simp only [List.setIfInBounds_toArray, List.set_cons_zero, List.set_cons_succ]
            refine wpL_last (x := 13) rfl (by kernel_rfl) (by kernel_rfl) (fun K hK => ?_)
            go_simp
            refine hK.out _ _ ?_
            refine NoPanic.normal ?_
            clear hK K
            rcases HM.out with hq | hq
            · have hq' : (f != 0) = true := by simpa using hq
              clear hq HM
              go_wp2
              go_ret
              exact ⟨by first | rfl | simp, Bu21⟩
            · subst hq
              by_cases hf0 : f = 0
              · subst hf0
                go_wp2
                go_ret
                exact ⟨by first | rfl | simp, Bu21⟩
              · have hq' : (f != 0) = true := by simpa using hf0
                clear hf0 HM
                go_wp2
                go_ret
                exact ⟨by first | rfl | simp, Bu21⟩
        · skip
          go_simp
          have Su6 : CellsAt (w5.alloc (.cells #[.string N, .int .i64 xa, .int .i64 xi, .string T, .slice qe lx je, .slice qi li ji, .slice qp lp jp, .int .i64 fi] 56)) w.heap.size 37 #[.int .i64 ma, .int .i64 mi, .slice pe le ke] ∧ CellsAt (w5.alloc (.cells #[.string N, .int .i64 xa, .int .i64 xi, .string T, .slice qe lx je, .slice qi li ji, .slice qp lp jp, .int .i64 fi] 56)) (w.heap.size + 1) 56 #[.string N, .int .i64 xa, .int .i64 xi, .string T, .slice qe lx je, .slice qi li ji, .slice qp lp jp, .int .i64 fi] ∧ CellsAt (w5.alloc (.cells #[.string N, .int .i64 xa, .int .i64 xi, .string T, .slice qe lx je, .slice qi li ji, .slice qp lp jp, .int .i64 fi] 56)) (w.heap.size + 1 + 1) 40 #[.string im, .string inm, .int .i64 ia, .int .i64 ib] := ⟨CellsAt.kept Sw5.1 (World.grownBy_alloc _ _ none) (by simp), CellsAt.kept Sw5.2.1 (World.grownBy_alloc _ _ none) (by simp), CellsAt.kept Sw5.2.2 (World.grownBy_alloc _ _ none) (by simp)⟩
          have Bu6 : Below w.heap.size w (w5.alloc (.cells #[.string N, .int .i64 xa, .int .i64 xi, .string T, .slice qe lx je, .slice qi li ji, .slice qp lp jp, .int .i64 fi] 56)) := Bw5.alloc Bw5.size _
          have Eu6 : Below w5.heap.size w5 (w5.alloc (.cells #[.string N, .int .i64 xa, .int .i64 xi, .string T, .slice qe lx je, .slice qi li ji, .slice qp lp jp, .int .i64 fi] 56)) := Ew5.alloc Ew5.size _
          have C32 : CellsAt (w5.alloc (.cells #[.string N, .int .i64 xa, .int .i64 xi, .string T, .slice qe lx je, .slice qi li ji, .slice qp lp jp, .int .i64 fi] 56)) w5.heap.size 56 #[.string N, .int .i64 xa, .int .i64 xi, .string T, .slice qe lx je, .slice qi li ji, .slice qp lp jp, .int .i64 fi] := CellsAt.new w5 _ _
          refine hK.out _ _ Su6 (fun _ => ?_)
          clear hK K
          generalize w5.alloc (.cells #[.string N, .int .i64 xa, .int .i64 xi, .string T, .slice qe lx je, .slice qi li ji, .slice qp lp jp, .int .i64 fi] 56) = u6 at Su6 Bu6 Eu6 C32 ⊢
          refine wpL_step (i := 1) rfl (by kernel_rfl) (fun K hK => ?_)
          go_simp
          have Su7 : CellsAt (u6.alloc (.cells #[] 56)) w.heap.size 37 #[.int .i64 ma, .int .i64 mi, .slice pe le ke] ∧ CellsAt (u6.alloc (.cells #[] 56)) (w.heap.size + 1) 56 #[.string N, .int .i64 xa, .int .i64 xi, .string T, .slice qe lx je, .slice qi li ji, .slice qp lp jp, .int .i64 fi] ∧ CellsAt (u6.alloc (.cells #[] 56)) (w.heap.size + 1 + 1) 40 #[.string im, .string inm, .int .i64 ia, .int .i64 ib] := ⟨CellsAt.kept Su6.1 (World.grownBy_alloc _ _ none) (by simp), CellsAt.kept Su6.2.1 (World.grownBy_alloc _ _ none) (by simp), CellsAt.kept Su6.2.2 (World.grownBy_alloc _ _ none) (by simp)⟩
          have Bu7 : Below w.heap.size w (u6.alloc (.cells #[] 56)) := Bu6.alloc Bu6.size _
          have Eu7 : Below w5.heap.size w5 (u6.alloc (.cells #[] 56)) := Eu6.alloc Eu6.size _
          have O28 : (u6.alloc (.cells #[] 56)).ownsRow w5.heap.size 56 8 (.slice (some ⟨u6.heap.size, 0, none⟩) 0 0) 0 [] := own_empty Eu6.size
          have hne : w5.heap.size ≠ u6.heap.size := Nat.ne_of_lt (CellsAt.lt C32)
          have C33 : CellsAt (u6.alloc (.cells #[] 56)) w5.heap.size 56 #[.string N, .int .i64 xa, .int .i64 xi, .string T, .slice qe lx je, .slice qi li ji, .slice qp lp jp, .int .i64 fi] := CellsAt.kept C32 (World.grownBy_alloc _ _ none) (by simp)
          clear C32
          have C32 := C33
          clear C33
          refine hK.out _ _ Su7 (fun _ => ?_)
          clear hK K
          generalize u6.alloc (.cells #[] 56) = u7 at Su7 Bu7 Eu7 O28 C32 ⊢
          refine wpL_step (i := 3) rfl (by kernel_rfl) (fun K hK => ?_)
          go_simp
          refine hK.out _ _ Su7 (fun _ => ?_)
          clear hK K
          have O30 : u7.ownsRow w5.heap.size 56 8 (.slice (some ⟨u6.heap.size, 0, none⟩) 0 0) ([] : List PV).length (([] : List PV).flatMap pvC) := O28
          refine wpL_step (i := 6) rfl (by kernel_rfl) (fun K hK => ?_)
          refine step_append_lies _ (by rfl) _ _ _ (by rfl) w5.heap.size 56 ii _ 8 128 Try.underlying38 hii hz0 hz1 hz2 rfl (by omega) (.slice (some ⟨u6.heap.size, 0, none⟩) 0 0) ([] : List PV).length (([] : List PV).flatMap pvC) (by rfl) O30 ⟨w5.heap.size, 0, none⟩ 1 1 [.string N, .int .i64 xa, .int .i64 xi, .string T, .slice qe lx je, .slice qi li ji, .slice qp lp jp, .int .i64 fi] (by rfl) (by rfl) (World.news_of_block (cs := #[.string N, .int .i64 xa, .int .i64 xi, .string T, .slice qe lx je, .slice qi li ji, .slice qp lp jp, .int .i64 fi]) (t := 56) (fr := (0, 0)) C32) HONX.out (by omega) (by unfold maxLen; omega) (by omega) Eu7.size u7.heap.size rfl ?_
          intro g7 c7 u20 own7 grow7 at7 lt7
          have Su20 : CellsAt u20 w.heap.size 37 #[.int .i64 ma, .int .i64 mi, .slice pe le ke] ∧ CellsAt u20 (w.heap.size + 1) 56 #[.string N, .int .i64 xa, .int .i64 xi, .string T, .slice qe lx je, .slice qi li ji, .slice qp lp jp, .int .i64 fi] ∧ CellsAt u20 (w.heap.size + 1 + 1) 40 #[.string im, .string inm, .int .i64 ia, .int .i64 ib] := ⟨keep_own Su7.1 O30 grow7 z0, keep_own Su7.2.1 O30 grow7 z1, keep_own Su7.2.2 O30 grow7 z2⟩
          have Bu20 : Below w.heap.size w u20 := Bu7.grown grow7 Bu7.size (fun k hk => Nat.le_trans zw (own_block O30 k hk))
          have hRow := HRX.out _ _ _ own7 h8
          have HROW : Hid _ := hRow
          refine hK.out _ _ Su20 (fun _ => ?_)
          clear hK K own7 grow7 at7 lt7 hRow O30 C32
          simp only [Act.put, List.setIfInBounds_toArray]
          try simp only [List.setIfInBounds_toArray, List.set_cons_zero, List.set_cons_succ]
          refine wpL_step (i := 8) rfl (by kernel_rfl) (fun K hK => ?_)
          go_simp
          refine (HG.out _ _ Bu20 HROW.out).mono ?_
          rintro _ u21 ⟨rfl, b8⟩
          have Su21 : CellsAt u21 w.heap.size 37 #[.int .i64 ma, .int .i64 mi, .slice pe le ke] ∧ CellsAt u21 (w.heap.size + 1) 56 #[.string N, .int .i64 xa, .int .i64 xi, .string T, .slice qe lx je, .slice qi li ji, .slice qp lp jp, .int .i64 fi] ∧ CellsAt u21 (w.heap.size + 1 + 1) 40 #[.string im, .string inm, .int .i64 ia, .int .i64 ib] := ⟨CellsAt.below Su20.1 b8 (CellsAt.lt Su20.1), CellsAt.below Su20.2.1 b8 (CellsAt.lt Su20.2.1), CellsAt.below Su20.2.2 b8 (CellsAt.lt Su20.2.2)⟩
          have Bu21 := Bu20.trans (b8.mono Bu20.size)
          go_simp
          refine hK.out _ _ Su21 (fun _ => ?_)
          clear hK K b8
          refine wpL_take 9 26 (.tuple #[.int .i64 n2, .int .i64 f]) rfl (by kernel_rfl) (fun _ _ _ h => h) Su21 rfl rfl (fun w' hSw => by clear hSw; go_simp) ?_
          simp only [List.setIfInBounds_toArray, List.set_cons_zero, List.set_cons_succ]
          refine wpL_take 10 36 (.int .i64 n2) rfl (by kernel_rfl) (fun _ _ _ h => h) Su21 rfl rfl (fun w' hSw => by clear hSw; go_simp) ?_
          simp only [List.setIfInBounds_toArray, List.set_cons_zero, List.set_cons_succ]
          refine wpL_take 11 37 (.int .i64 f) rfl (by kernel_rfl) (fun _ _ _ h => h) Su21 rfl rfl (fun w' hSw => by clear hSw; go_simp) ?_
          simp only [List.setIfInBounds_toArray, List.set_cons_zero, List.set_cons_succ]
          refine wpL_take 12 11 (.int .i64 n2) rfl (by kernel_rfl) (fun _ _ _ h => h) Su21 rfl rfl (fun w' hSw => by clear hSw; go_simp) ?_
          simp only [List.setIfInBounds_toArray, List.set_cons_zero, List.set_cons_succ]
          refine wpL_last (x := 13) rfl (by kernel_rfl) (by kernel_rfl) (fun K hK => ?_)
          go_simp
          refine hK.out _ _ ?_
          refine NoPanic.normal ?_
          clear hK K
          rcases HM.out with hq | hq
          · have hq' : (f != 0) = true := by simpa using hq
            clear hq HM
            go_wp2
            go_ret
            exact ⟨by first | rfl | simp, Bu21⟩
          · subst hq
            by_cases hf0 : f = 0
            · subst hf0
              go_wp2
              go_ret
              exact ⟨by first | rfl | simp, Bu21⟩
            · have hq' : (f != 0) = true := by simpa using hf0
              clear hf0 HM
              go_wp2
              go_ret
              exact ⟨by first | rfl | simp, Bu21⟩
    · have hpos : 0 < l.length := by cases l with
        | nil => exact absurd rfl hl0
        | cons y r => simp
      rcases hrow with h | ⟨b, off, rfl, hbn, hcells⟩
      · exact absurd h hl0
      refine wpL_two (i := 1) (j := 5) rfl rfl (by kernel_rfl) (fun K hK => ?_) (fun K hK => ?_)
      · skip
        go_simp
        have Su6 : CellsAt (w5.alloc (.cells #[] 56)) w.heap.size 37 #[.int .i64 ma, .int .i64 mi, .slice pe le ke] ∧ CellsAt (w5.alloc (.cells #[] 56)) (w.heap.size + 1) 56 #[.string N, .int .i64 xa, .int .i64 xi, .string T, .slice qe lx je, .slice qi li ji, .slice qp lp jp, .int .i64 fi] ∧ CellsAt (w5.alloc (.cells #[] 56)) (w.heap.size + 1 + 1) 40 #[.string im, .string inm, .int .i64 ia, .int .i64 ib] := ⟨CellsAt.kept Sw5.1 (World.grownBy_alloc _ _ none) (by simp), CellsAt.kept Sw5.2.1 (World.grownBy_alloc _ _ none) (by simp), CellsAt.kept Sw5.2.2 (World.grownBy_alloc _ _ none) (by simp)⟩
        have Bu6 : Below w.heap.size w (w5.alloc (.cells #[] 56)) := Bw5.alloc Bw5.size _
        have Eu6 : Below w5.heap.size w5 (w5.alloc (.cells #[] 56)) := Ew5.alloc Ew5.size _
        have O28 : (w5.alloc (.cells #[] 56)).ownsRow w5.heap.size 56 8 (.slice (some ⟨w5.heap.size, 0, none⟩) 0 0) 0 [] := own_empty Ew5.size
        refine hK.out _ _ Su6 (fun _ => ?_)
        clear hK K
        generalize w5.alloc (.cells #[] 56) = u6 at Su6 Bu6 Eu6 O28 ⊢
        refine wpL_two (i := 3) (j := 5) rfl rfl (by kernel_rfl) (fun K hK => ?_) (fun K hK => ?_)
        · skip
          have hcl : ∀ j y, l[j]? = some y → ∀ i, i < 8 → u6.cell? ⟨b, off + j * 8 + i, none⟩ = some (PV.cell y i) := fun j y hj i hi => (Bu6.cell (p := ⟨b, off + j * 8 + i, none⟩) hbn).trans (hcells j y hj i hi)
          refine step_append_lies _ (by rfl) _ _ _ (by rfl) w5.heap.size 56 ii _ 8 128 Try.underlying38 hii hz0 hz1 hz2 rfl (by omega) (.slice (some ⟨w5.heap.size, 0, none⟩) 0 0) 0 [] (by rfl) O28 ⟨b, off, none⟩ l.length cap (l.flatMap pvC) (by rfl) (flat_len (C := pvC) (sz := 8) (fun _ => rfl) l) (news_row (C := pvC) (cells := PV.cell) (sz := 8) (by decide) (fun _ => rfl) pvC_at hcl) HONE.out hpos (by unfold maxLen; omega) (by omega) Eu6.size u6.heap.size rfl ?_
          intro g3 c3 u7 own3 grow3 at3 lt3
          rw [Nat.zero_add, List.nil_append] at own3
          rw [Nat.zero_add]
          have Su7 : CellsAt u7 w.heap.size 37 #[.int .i64 ma, .int .i64 mi, .slice pe le ke] ∧ CellsAt u7 (w.heap.size + 1) 56 #[.string N, .int .i64 xa, .int .i64 xi, .string T, .slice qe lx je, .slice qi li ji, .slice qp lp jp, .int .i64 fi] ∧ CellsAt u7 (w.heap.size + 1 + 1) 40 #[.string im, .string inm, .int .i64 ia, .int .i64 ib] := ⟨keep_own Su6.1 O28 grow3 z0, keep_own Su6.2.1 O28 grow3 z1, keep_own Su6.2.2 O28 grow3 z2⟩
          have Bu7 : Below w.heap.size w u7 := Bu6.grown grow3 Bu6.size (fun k hk => Nat.le_trans zw (own_block O28 k hk))
          have Eu7 : Below w5.heap.size w5 u7 := Eu6.grown grow3 Eu6.size (fun k hk => own_block O28 k hk)
          have O30 := own3
          refine hK.out _ _ Su7 (fun _ => ?_)
          clear hK K O28 own3 grow3 at3 hcl
          simp only [Act.put, List.setIfInBounds_toArray]
          try simp only [List.setIfInBounds_toArray, List.set_cons_zero, List.set_cons_succ]
          refine wpL_step (i := 5) rfl (by kernel_rfl) (fun K hK => ?_)
          go_simp
          have Su8 : CellsAt (u7.alloc (.cells #[.string N, .int .i64 xa, .int .i64 xi, .string T, .slice qe lx je, .slice qi li ji, .slice qp lp jp, .int .i64 fi] 56)) w.heap.size 37 #[.int .i64 ma, .int .i64 mi, .slice pe le ke] ∧ CellsAt (u7.alloc (.cells #[.string N, .int .i64 xa, .int .i64 xi, .string T, .slice qe lx je, .slice qi li ji, .slice qp lp jp, .int .i64 fi] 56)) (w.heap.size + 1) 56 #[.string N, .int .i64 xa, .int .i64 xi, .string T, .slice qe lx je, .slice qi li ji, .slice qp lp jp, .int .i64 fi] ∧ CellsAt (u7.alloc (.cells #[.string N, .int .i64 xa, .int .i64 xi, .string T, .slice qe lx je, .slice qi li ji, .slice qp lp jp, .int .i64 fi] 56)) (w.heap.size + 1 + 1) 40 #[.string im, .string inm, .int .i64 ia, .int .i64 ib] := ⟨CellsAt.kept Su7.1 (World.grownBy_alloc _ _ none) (by simp), CellsAt.kept Su7.2.1 (World.grownBy_alloc _ _ none) (by simp), CellsAt.kept Su7.2.2 (World.grownBy_alloc _ _ none) (by simp)⟩
          have Bu8 : Below w.heap.size w (u7.alloc (.cells #[.string N, .int .i64 xa, .int .i64 xi, .string T, .slice qe lx je, .slice qi li ji, .slice qp lp jp, .int .i64 fi] 56)) := Bu7.alloc Bu7.size _
          have Eu8 : Below w5.heap.size w5 (u7.alloc (.cells #[.string N, .int .i64 xa, .int .i64 xi, .string T, .slice qe lx je, .slice qi li ji, .slice qp lp jp, .int .i64 fi] 56)) := Eu7.alloc Eu7.size _
          have C32 : CellsAt (u7.alloc (.cells #[.string N, .int .i64 xa, .int .i64 xi, .string T, .slice qe lx je, .slice qi li ji, .slice qp lp jp, .int .i64 fi] 56)) u7.heap.size 56 #[.string N, .int .i64 xa, .int .i64 xi, .string T, .slice qe lx je, .slice qi li ji, .slice qp lp jp, .int .i64 fi] := CellsAt.new u7 _ _
          have O31 := O30.alloc (.cells #[.string N, .int .i64 xa, .int .i64 xi, .string T, .slice qe lx je, .slice qi li ji, .slice qp lp jp, .int .i64 fi] 56)
          clear O30
          have O30 := O31
          clear O31
          refine hK.out _ _ Su8 (fun _ => ?_)
          clear hK K
          generalize u7.alloc (.cells #[.string N, .int .i64 xa, .int .i64 xi, .string T, .slice qe lx je, .slice qi li ji, .slice qp lp jp, .int .i64 fi] 56) = u8 at Su8 Bu8 Eu8 C32 O30 ⊢
          refine wpL_step (i := 6) rfl (by kernel_rfl) (fun K hK => ?_)
          refine step_append_lies _ (by rfl) _ _ _ (by rfl) w5.heap.size 56 ii _ 8 128 Try.underlying38 hii hz0 hz1 hz2 rfl (by omega) (.slice (some ⟨g3, 0, none⟩) l.length c3) l.length (l.flatMap pvC) (by rfl) O30 ⟨u7.heap.size, 0, none⟩ 1 1 [.string N, .int .i64 xa, .int .i64 xi, .string T, .slice qe lx je, .slice qi li ji, .slice qp lp jp, .int .i64 fi] (by rfl) (by rfl) (World.news_of_block (cs := #[.string N, .int .i64 xa, .int .i64 xi, .string T, .slice qe lx je, .slice qi li ji, .slice qp lp jp, .int .i64 fi]) (t := 56) (fr := (0, 0)) C32) HONX.out (by omega) (by unfold maxLen; omega) (by omega) Eu8.size u8.heap.size rfl ?_
          intro g7 c7 u20 own7 grow7 at7 lt7
          have Su20 : CellsAt u20 w.heap.size 37 #[.int .i64 ma, .int .i64 mi, .slice pe le ke] ∧ CellsAt u20 (w.heap.size + 1) 56 #[.string N, .int .i64 xa, .int .i64 xi, .string T, .slice qe lx je, .slice qi li ji, .slice qp lp jp, .int .i64 fi] ∧ CellsAt u20 (w.heap.size + 1 + 1) 40 #[.string im, .string inm, .int .i64 ia, .int .i64 ib] := ⟨keep_own Su8.1 O30 grow7 z0, keep_own Su8.2.1 O30 grow7 z1, keep_own Su8.2.2 O30 grow7 z2⟩
          have Bu20 : Below w.heap.size w u20 := Bu8.grown grow7 Bu8.size (fun k hk => Nat.le_trans zw (own_block O30 k hk))
          have hRow := HRX.out _ _ _ own7 h8
          have HROW : Hid _ := hRow
          refine hK.out _ _ Su20 (fun _ => ?_)
          clear hK K own7 grow7 at7 lt7 hRow O30 C32
          simp only [Act.put, List.setIfInBounds_toArray]
          try simp only [List.setIfInBounds_toArray, List.set_cons_zero, List.set_cons_succ]
          refine wpL_step (i := 8) rfl (by kernel_rfl) (fun K hK => ?_)
          go_simp
          refine (HG.out _ _ Bu20 HROW.out).mono ?_
          rintro _ u21 ⟨rfl, b8⟩
          have Su21 : CellsAt u21 w.heap.size 37 #[.int .i64 ma, .int .i64 mi, .slice pe le ke] ∧ CellsAt u21 (w.heap.size + 1) 56 #[.string N, .int .i64 xa, .int .i64 xi, .string T, .slice qe lx je, .slice qi li ji, .slice qp lp jp, .int .i64 fi] ∧ CellsAt u21 (w.heap.size + 1 + 1) 40 #[.string im, .string inm, .int .i64 ia, .int .i64 ib] := ⟨CellsAt.below Su20.1 b8 (CellsAt.lt Su20.1), CellsAt.below Su20.2.1 b8 (CellsAt.lt Su20.2.1), CellsAt.below Su20.2.2 b8 (CellsAt.lt Su20.2.2)⟩
          have Bu21 := Bu20.trans (b8.mono Bu20.size)
          go_simp
          refine hK.out _ _ Su21 (fun _ => ?_)
          clear hK K b8
          refine wpL_take 9 26 (.tuple #[.int .i64 n2, .int .i64 f]) rfl (by kernel_rfl) (fun _ _ _ h => h) Su21 rfl rfl (fun w' hSw => by clear hSw; go_simp) ?_
          simp only [List.setIfInBounds_toArray, List.set_cons_zero, List.set_cons_succ]
          refine wpL_take 10 36 (.int .i64 n2) rfl (by kernel_rfl) (fun _ _ _ h => h) Su21 rfl rfl (fun w' hSw => by clear hSw; go_simp) ?_
          simp only [List.setIfInBounds_toArray, List.set_cons_zero, List.set_cons_succ]
          refine wpL_take 11 37 (.int .i64 f) rfl (by kernel_rfl) (fun _ _ _ h => h) Su21 rfl rfl (fun w' hSw => by clear hSw; go_simp) ?_
          simp only [List.setIfInBounds_toArray, List.set_cons_zero, List.set_cons_succ]
          refine wpL_take 12 11 (.int .i64 n2) rfl (by kernel_rfl) (fun _ _ _ h => h) Su21 rfl rfl (fun w' hSw => by clear hSw; go_simp) ?_
          simp only [List.setIfInBounds_toArray, List.set_cons_zero, List.set_cons_succ]
          refine wpL_last (x := 13) rfl (by kernel_rfl) (by kernel_rfl) (fun K hK => ?_)
          go_simp
          refine hK.out _ _ ?_
          refine NoPanic.normal ?_
          clear hK K
          rcases HM.out with hq | hq
          · have hq' : (f != 0) = true := by simpa using hq
            clear hq HM
            go_wp2
            go_ret
            exact ⟨by first | rfl | simp, Bu21⟩
          · subst hq
            by_cases hf0 : f = 0
            · subst hf0
              go_wp2
              go_ret
              exact ⟨by first | rfl | simp, Bu21⟩
            · have hq' : (f != 0) = true := by simpa using hf0
              clear hf0 HM
              go_wp2
              go_ret
              exact ⟨by first | rfl | simp, Bu21⟩
        · skip
          go_simp
          have Su7 : CellsAt (u6.alloc (.cells #[.string N, .int .i64 xa, .int .i64 xi, .string T, .slice qe lx je, .slice qi li ji, .slice qp lp jp, .int .i64 fi] 56)) w.heap.size 37 #[.int .i64 ma, .int .i64 mi, .slice pe le ke] ∧ CellsAt (u6.alloc (.cells #[.string N, .int .i64 xa, .int .i64 xi, .string T, .slice qe lx je, .slice qi li ji, .slice qp lp jp, .int .i64 fi] 56)) (w.heap.size + 1) 56 #[.string N, .int .i64 xa, .int .i64 xi, .string T, .slice qe lx je, .slice qi li ji, .slice qp lp jp, .int .i64 fi] ∧ CellsAt (u6.alloc (.cells #[.string N, .int .i64 xa, .int .i64 xi, .string T, .slice qe lx je, .slice qi li ji, .slice qp lp jp, .int .i64 fi] 56)) (w.heap.size + 1 + 1) 40 #[.string im, .string inm, .int .i64 ia, .int .i64 ib] := ⟨CellsAt.kept Su6.1 (World.grownBy_alloc _ _ none) (by simp), CellsAt.kept Su6.2.1 (World.grownBy_alloc _ _ none) (by simp), CellsAt.kept Su6.2.2 (World.grownBy_alloc _ _ none) (by simp)⟩
          have Bu7 : Below w.heap.size w (u6.alloc (.cells #[.string N, .int .i64 xa, .int .i64 xi, .string T, .slice qe lx je, .slice qi li ji, .slice qp lp jp, .int .i64 fi] 56)) := Bu6.alloc Bu6.size _
          have Eu7 : Below w5.heap.size w5 (u6.alloc (.cells #[.string N, .int .i64 xa, .int .i64 xi, .string T, .slice qe lx je, .slice qi li ji, .slice qp lp jp, .int .i64 fi] 56)) := Eu6.alloc Eu6.size _
          have C32 : CellsAt (u6.alloc (.cells #[.string N, .int .i64 xa, .int .i64 xi, .string T, .slice qe lx je, .slice qi li ji, .slice qp lp jp, .int .i64 fi] 56)) u6.heap.size 56 #[.string N, .int .i64 xa, .int .i64 xi, .string T, .slice qe lx je, .slice qi li ji, .slice qp lp jp, .int .i64 fi] := CellsAt.new u6 _ _
          have hne : u6.heap.size ≠ w5.heap.size := Nat.ne_of_gt (own_lt O28)
          have O29 := O28.alloc (.cells #[.string N, .int .i64 xa, .int .i64 xi, .string T, .slice qe lx je, .slice qi li ji, .slice qp lp jp, .int .i64 fi] 56)
          clear O28
          have O28 := O29
          clear O29
          refine hK.out _ _ Su7 (fun _ => ?_)
          clear hK K
          generalize u6.alloc (.cells #[.string N, .int .i64 xa, .int .i64 xi, .string T, .slice qe lx je, .slice qi li ji, .slice qp lp jp, .int .i64 fi] 56) = u7 at Su7 Bu7 Eu7 C32 O28 ⊢
          refine wpL_step (i := 3) rfl (by kernel_rfl) (fun K hK => ?_)
          have hcl : ∀ j y, l[j]? = some y → ∀ i, i < 8 → u7.cell? ⟨b, off + j * 8 + i, none⟩ = some (PV.cell y i) := fun j y hj i hi => (Bu7.cell (p := ⟨b, off + j * 8 + i, none⟩) hbn).trans (hcells j y hj i hi)
          refine step_append_lies _ (by rfl) _ _ _ (by rfl) w5.heap.size 56 ii _ 8 128 Try.underlying38 hii hz0 hz1 hz2 rfl (by omega) (.slice (some ⟨w5.heap.size, 0, none⟩) 0 0) 0 [] (by rfl) O28 ⟨b, off, none⟩ l.length cap (l.flatMap pvC) (by rfl) (flat_len (C := pvC) (sz := 8) (fun _ => rfl) l) (news_row (C := pvC) (cells := PV.cell) (sz := 8) (by decide) (fun _ => rfl) pvC_at hcl) HONE.out hpos (by unfold maxLen; omega) (by omega) Eu7.size u7.heap.size rfl ?_
          intro g3 c3 u8 own3 grow3 at3 lt3
          rw [Nat.zero_add, List.nil_append] at own3
          rw [Nat.zero_add]
          have Su8 : CellsAt u8 w.heap.size 37 #[.int .i64 ma, .int .i64 mi, .slice pe le ke] ∧ CellsAt u8 (w.heap.size + 1) 56 #[.string N, .int .i64 xa, .int .i64 xi, .string T, .slice qe lx je, .slice qi li ji, .slice qp lp jp, .int .i64 fi] ∧ CellsAt u8 (w.heap.size + 1 + 1) 40 #[.string im, .string inm, .int .i64 ia, .int .i64 ib] := ⟨keep_own Su7.1 O28 grow3 z0, keep_own Su7.2.1 O28 grow3 z1, keep_own Su7.2.2 O28 grow3 z2⟩
          have Bu8 : Below w.heap.size w u8 := Bu7.grown grow3 Bu7.size (fun k hk => Nat.le_trans zw (own_block O28 k hk))
          have Eu8 : Below w5.heap.size w5 u8 := Eu7.grown grow3 Eu7.size (fun k hk => own_block O28 k hk)
          have C33 : CellsAt u8 u6.heap.size 56 #[.string N, .int .i64 xa, .int .i64 xi, .string T, .slice qe lx je, .slice qi li ji, .slice qp lp jp, .int .i64 fi] := CellsAt.kept C32 grow3 (fun e => hne (by injection e))
          clear C32
          have C32 := C33
          clear C33
          have O30 := own3
          refine hK.out _ _ Su8 (fun _ => ?_)
          clear hK K O28 own3 grow3 at3 hcl
          simp only [Act.put, List.setIfInBounds_toArray]
          try simp only [List.setIfInBounds_toArray, List.set_cons_zero, List.set_cons_succ]
          refine wpL_step (i := 6) rfl (by kernel_rfl) (fun K hK => ?_)
          refine step_append_lies _ (by rfl) _ _ _ (by rfl) w5.heap.size 56 ii _ 8 128 Try.underlying38 hii hz0 hz1 hz2 rfl (by omega) (.slice (some ⟨g3, 0, none⟩) l.length c3) l.length (l.flatMap pvC) (by rfl) O30 ⟨u6.heap.size, 0, none⟩ 1 1 [.string N, .int .i64 xa, .int .i64 xi, .string T, .slice qe lx je, .slice qi li ji, .slice qp lp jp, .int .i64 fi] (by rfl) (by rfl) (World.news_of_block (cs := #[.string N, .int .i64 xa, .int .i64 xi, .string T, .slice qe lx je, .slice qi li ji, .slice qp lp jp, .int .i64 fi]) (t := 56) (fr := (0, 0)) C32) HONX.out (by omega) (by unfold maxLen; omega) (by omega) Eu8.size u8.heap.size rfl ?_
          intro g7 c7 u20 own7 grow7 at7 lt7
          have Su20 : CellsAt u20 w.heap.size 37 #[.int .i64 ma, .int .i64 mi, .slice pe le ke] ∧ CellsAt u20 (w.heap.size + 1) 56 #[.string N, .int .i64 xa, .int .i64 xi, .string T, .slice qe lx je, .slice qi li ji, .slice qp lp jp, .int .i64 fi] ∧ CellsAt u20 (w.heap.size + 1 + 1) 40 #[.string im, .string inm, .int .i64 ia, .int .i64 ib] := ⟨keep_own Su8.1 O30 grow7 z0, keep_own Su8.2.1 O30 grow7 z1, keep_own Su8.2.2 O30 grow7 z2⟩
          have Bu20 : Below w.heap.size w u20 := Bu8.grown grow7 Bu8.size (fun k hk => Nat.le_trans zw (own_block O30 k hk))
          have hRow := HRX.out _ _ _ own7 h8
          have HROW : Hid _ := hRow
          refine hK.out _ _ Su20 (fun _ => ?_)
          clear hK K own7 grow7 at7 lt7 hRow O30 C32
          simp only [Act.put]
          try simp only [List.setIfInBounds_toArray, List.set_cons_zero, List.set_cons_succ]
          refine wpL_step (i := 8) rfl (by kernel_rfl) (fun K hK => ?_)
          go_simp
          refine (HG.out _ _ Bu20 HROW.out).mono ?_
          rintro _ u21 ⟨rfl, b8⟩
          have Su21 : CellsAt u21 w.heap.size 37 #[.int .i64 ma, .int .i64 mi, .slice pe le ke] ∧ CellsAt u21 (w.heap.size + 1) 56 #[.string N, .int .i64 xa, .int .i64 xi, .string T, .slice qe lx je, .slice qi li ji, .slice qp lp jp, .int .i64 fi] ∧ CellsAt u21 (w.heap.size + 1 + 1) 40 #[.string im, .string inm, .int .i64 ia, .int .i64 ib] := ⟨CellsAt.below Su20.1 b8 (CellsAt.lt Su20.1), CellsAt.below Su20.2.1 b8 (CellsAt.lt Su20.2.1), CellsAt.below Su20.2.2 b8 (CellsAt.lt Su20.2.2)⟩
          have Bu21 := Bu20.trans (b8.mono Bu20.size)
          go_simp
          refine hK.out _ _ Su21 (fun _ => ?_)
          clear hK K b8
          refine wpL_take 9 26 (.tuple #[.int .i64 n2, .int .i64 f]) rfl (by kernel_rfl) (fun _ _ _ h => h) Su21 rfl rfl (fun w' hSw => by clear hSw; go_simp) ?_
          simp only [List.setIfInBounds_toArray, List.set_cons_zero, List.set_cons_succ]
          refine wpL_take 10 36 (.int .i64 n2) rfl (by kernel_rfl) (fun _ _ _ h => h) Su21 rfl rfl (fun w' hSw => by clear hSw; go_simp) ?_
          simp only [List.setIfInBounds_toArray, List.set_cons_zero, List.set_cons_succ]
          refine wpL_take 11 37 (.int .i64 f) rfl (by kernel_rfl) (fun _ _ _ h => h) Su21 rfl rfl (fun w' hSw => by clear hSw; go_simp) ?_
          simp only [List.setIfInBounds_toArray, List.set_cons_zero, List.set_cons_succ]
          refine wpL_take 12 11 (.int .i64 n2) rfl (by kernel_rfl) (fun _ _ _ h => h) Su21 rfl rfl (fun w' hSw => by clear hSw; go_simp) ?_
          simp only [List.setIfInBounds_toArray, List.set_cons_zero, List.set_cons_succ]
          refine wpL_last (x := 13) rfl (by kernel_rfl) (by kernel_rfl) (fun K hK => ?_)
          go_simp
          refine hK.out _ _ ?_
          refine NoPanic.normal ?_
          clear hK K
          rcases HM.out with hq | hq
          · have hq' : (f != 0) = true := by simpa using hq
            clear hq HM
            go_wp2
            go_ret
            exact ⟨by first | rfl | simp, Bu21⟩
          · subst hq
            by_cases hf0 : f = 0
            · subst hf0
              go_wp2
              go_ret
              exact ⟨by first | rfl | simp, Bu21⟩
            · have hq' : (f != 0) = true := by simpa using hf0
              clear hf0 HM
              go_wp2
              go_ret
              exact ⟨by first | rfl | simp, Bu21⟩
      · skip
        go_simp
        have Su6 : CellsAt (w5.alloc (.cells #[.string N, .int .i64 xa, .int .i64 xi, .string T, .slice qe lx je, .slice qi li ji, .slice qp lp jp, .int .i64 fi] 56)) w.heap.size 37 #[.int .i64 ma, .int .i64 mi, .slice pe le ke] ∧ CellsAt (w5.alloc (.cells #[.string N, .int .i64 xa, .int .i64 xi, .string T, .slice qe lx je, .slice qi li ji, .slice qp lp jp, .int .i64 fi] 56)) (w.heap.size + 1) 56 #[.string N, .int .i64 xa, .int .i64 xi, .string T, .slice qe lx je, .slice qi li ji, .slice qp lp jp, .int .i64 fi] ∧ CellsAt (w5.alloc (.cells #[.string N, .int .i64 xa, .int .i64 xi, .string T, .slice qe lx je, .slice qi li ji, .slice qp lp jp, .int .i64 fi] 56)) (w.heap.size + 1 + 1) 40 #[.string im, .string inm, .int .i64 ia, .int .i64 ib] := ⟨CellsAt.kept Sw5.1 (World.grownBy_alloc _ _ none) (by simp), CellsAt.kept Sw5.2.1 (World.grownBy_alloc _ _ none) (by simp), CellsAt.kept Sw5.2.2 (World.grownBy_alloc _ _ none) (by simp)⟩
        have Bu6 : Below w.heap.size w (w5.alloc (.cells #[.string N, .int .i64 xa, .int .i64 xi, .string T, .slice qe lx je, .slice qi li ji, .slice qp lp jp, .int .i64 fi] 56)) := Bw5.alloc Bw5.size _
        have Eu6 : Below w5.heap.size w5 (w5.alloc (.cells #[.string N, .int .i64 xa, .int .i64 xi, .string T, .slice qe lx je, .slice qi li ji, .slice qp lp jp, .int .i64 fi] 56)) := Ew5.alloc Ew5.size _
        have C32 : CellsAt (w5.alloc (.cells #[.string N, .int .i64 xa, .int .i64 xi, .string T, .slice qe lx je, .slice qi li ji, .slice qp lp jp, .int .i64 fi] 56)) w5.heap.size 56 #[.string N, .int .i64 xa, .int .i64 xi, .string T, .slice qe lx je, .slice qi li ji, .slice qp lp jp, .int .i64 fi] := CellsAt.new w5 _ _
        refine hK.out _ _ Su6 (fun _ => ?_)
        clear hK K
        generalize w5.alloc (.cells #[.string N, .int .i64 xa, .int .i64 xi, .string T, .slice qe lx je, .slice qi li ji, .slice qp lp jp, .int .i64 fi] 56) = u6 at Su6 Bu6 Eu6 C32 ⊢
        refine wpL_step (i := 1) rfl (by kernel_rfl) (fun K hK => ?_)
        go_simp
        have Su7 : CellsAt (u6.alloc (.cells #[] 56)) w.heap.size 37 #[.int .i64 ma, .int .i64 mi, .slice pe le ke] ∧ CellsAt (u6.alloc (.cells #[] 56)) (w.heap.size + 1) 56 #[.string N, .int .i64 xa, .int .i64 xi, .string T, .slice qe lx je, .slice qi li ji, .slice qp lp jp, .int .i64 fi] ∧ CellsAt (u6.alloc (.cells #[] 56)) (w.heap.size + 1 + 1) 40 #[.string im, .string inm, .int .i64 ia, .int .i64 ib] := ⟨CellsAt.kept Su6.1 (World.grownBy_alloc _ _ none) (by simp), CellsAt.kept Su6.2.1 (World.grownBy_alloc _ _ none) (by simp), CellsAt.kept Su6.2.2 (World.grownBy_alloc _ _ none) (by simp)⟩
        have Bu7 : Below w.heap.size w (u6.alloc (.cells #[] 56)) := Bu6.alloc Bu6.size _
        have Eu7 : Below w5.heap.size w5 (u6.alloc (.cells #[] 56)) := Eu6.alloc Eu6.size _
        have O28 : (u6.alloc (.cells #[] 56)).ownsRow w5.heap.size 56 8 (.slice (some ⟨u6.heap.size, 0, none⟩) 0 0) 0 [] := own_empty Eu6.size
        have hne : w5.heap.size ≠ u6.heap.size := Nat.ne_of_lt (CellsAt.lt C32)
        have C33 : CellsAt (u6.alloc (.cells #[] 56)) w5.heap.size 56 #[.string N, .int .i64 xa, .int .i64 xi, .string T, .slice qe lx je, .slice qi li ji, .slice qp lp jp, .int .i64 fi] := CellsAt.kept C32 (World.grownBy_alloc _ _ none) (by simp)
        clear C32
        have C32 := C33
        clear C33
        refine hK.out _ _ Su7 (fun _ => ?_)
        clear hK K
        generalize u6.alloc (.cells #[] 56) = u7 at Su7 Bu7 Eu7 O28 C32 ⊢
        refine wpL_step (i := 3) rfl (by kernel_rfl) (fun K hK => ?_)
        have hcl : ∀ j y, l[j]? = some y → ∀ i, i < 8 → u7.cell? ⟨b, off + j * 8 + i, none⟩ = some (PV.cell y i) := fun j y hj i hi => (Bu7.cell (p := ⟨b, off + j * 8 + i, none⟩) hbn).trans (hcells j y hj i hi)
        refine step_append_lies _ (by rfl) _ _ _ (by rfl) w5.heap.size 56 ii _ 8 128 Try.underlying38 hii hz0 hz1 hz2 rfl (by omega) (.slice (some ⟨u6.heap.size, 0, none⟩) 0 0) 0 [] (by rfl) O28 ⟨b, off, none⟩ l.length cap (l.flatMap pvC) (by rfl) (flat_len (C := pvC) (sz := 8) (fun _ => rfl) l) (news_row (C := pvC) (cells := PV.cell) (sz := 8) (by decide) (fun _ => rfl) pvC_at hcl) HONE.out hpos (by unfold maxLen; omega) (by omega) Eu7.size u7.heap.size rfl ?_
        intro g3 c3 u8 own3 grow3 at3 lt3
        rw [Nat.zero_add, List.nil_append] at own3
        rw [Nat.zero_add]
        have Su8 : CellsAt u8 w.heap.size 37 #[.int .i64 ma, .int .i64 mi, .slice pe le ke] ∧ CellsAt u8 (w.heap.size + 1) 56 #[.string N, .int .i64 xa, .int .i64 xi, .string T, .slice qe lx je, .slice qi li ji, .slice qp lp jp, .int .i64 fi] ∧ CellsAt u8 (w.heap.size + 1 + 1) 40 #[.string im, .string inm, .int .i64 ia, .int .i64 ib] := ⟨keep_own Su7.1 O28 grow3 z0, keep_own Su7.2.1 O28 grow3 z1, keep_own Su7.2.2 O28 grow3 z2⟩
        have Bu8 : Below w.heap.size w u8 := Bu7.grown grow3 Bu7.size (fun k hk => Nat.le_trans zw (own_block O28 k hk))
        have Eu8 : Below w5.heap.size w5 u8 := Eu7.grown grow3 Eu7.size (fun k hk => own_block O28 k hk)
        have C33 : CellsAt u8 w5.heap.size 56 #[.string N, .int .i64 xa, .int .i64 xi, .string T, .slice qe lx je, .slice qi li ji, .slice qp lp jp, .int .i64 fi] := CellsAt.kept C32 grow3 (fun e => hne (by injection e))
        clear C32
        have C32 := C33
        clear C33
        have O30 := own3
        refine hK.out _ _ Su8 (fun _ => ?_)
        clear hK K O28 own3 grow3 at3 hcl
        simp only [Act.put, List.setIfInBounds_toArray]
        try simp only [List.setIfInBounds_toArray, List.set_cons_zero, List.set_cons_succ]
        refine wpL_step (i := 6) rfl (by kernel_rfl) (fun K hK => ?_)
        refine step_append_lies _ (by rfl) _ _ _ (by rfl) w5.heap.size 56 ii _ 8 128 Try.underlying38 hii hz0 hz1 hz2 rfl (by omega) (.slice (some ⟨g3, 0, none⟩) l.length c3) l.length (l.flatMap pvC) (by rfl) O30 ⟨w5.heap.size, 0, none⟩ 1 1 [.string N, .int .i64 xa, .int .i64 xi, .string T, .slice qe lx je, .slice qi li ji, .slice qp lp jp, .int .i64 fi] (by rfl) (by rfl) (World.news_of_block (cs := #[.string N, .int .i64 xa, .int .i64 xi, .string T, .slice qe lx je, .slice qi li ji, .slice qp lp jp, .int .i64 fi]) (t := 56) (fr := (0, 0)) C32) HONX.out (by omega) (by unfold maxLen; omega) (by omega) Eu8.size u8.heap.size rfl ?_
        intro g7 c7 u20 own7 grow7 at7 lt7
        have Su20 : CellsAt u20 w.heap.size 37 #[.int .i64 ma, .int .i64 mi, .slice pe le ke] ∧ CellsAt u20 (w.heap.size + 1) 56 #[.string N, .int .i64 xa, .int .i64 xi, .string T, .slice qe lx je, .slice qi li ji, .slice qp lp jp, .int .i64 fi] ∧ CellsAt u20 (w.heap.size + 1 + 1) 40 #[.string im, .string inm, .int .i64 ia, .int .i64 ib] := ⟨keep_own Su8.1 O30 grow7 z0, keep_own Su8.2.1 O30 grow7 z1, keep_own Su8.2.2 O30 grow7 z2⟩
        have Bu20 : Below w.heap.size w u20 := Bu8.grown grow7 Bu8.size (fun k hk => Nat.le_trans zw (own_block O30 k hk))
        have hRow := HRX.out _ _ _ own7 h8
        have HROW : Hid _ := hRow
        refine hK.out _ _ Su20 (fun _ => ?_)
        clear hK K own7 grow7 at7 lt7 hRow O30 C32
        simp only [Act.put]
        try simp only [List.setIfInBounds_toArray, List.set_cons_zero, List.set_cons_succ]
        refine wpL_step (i := 8) rfl (by kernel_rfl) (fun K hK => ?_)
        go_simp
        refine (HG.out _ _ Bu20 HROW.out).mono ?_
        rintro _ u21 ⟨rfl, b8⟩
        have Su21 : CellsAt u21 w.heap.size 37 #[.int .i64 ma, .int .i64 mi, .slice pe le ke] ∧ CellsAt u21 (w.heap.size + 1) 56 #[.string N, .int .i64 xa, .int .i64 xi, .string T, .slice qe lx je, .slice qi li ji, .slice qp lp jp, .int .i64 fi] ∧ CellsAt u21 (w.heap.size + 1 + 1) 40 #[.string im, .string inm, .int .i64 ia, .int .i64 ib] := ⟨CellsAt.below Su20.1 b8 (CellsAt.lt Su20.1), CellsAt.below Su20.2.1 b8 (CellsAt.lt Su20.2.1), CellsAt.below Su20.2.2 b8 (CellsAt.lt Su20.2.2)⟩
        have Bu21 := Bu20.trans (b8.mono Bu20.size)
        go_simp
        refine hK.out _ _ Su21 (fun _ => ?_)
        clear hK K b8
        refine wpL_take 9 26 (.tuple #[.int .i64 n2, .int .i64 f]) rfl (by kernel_rfl) (fun _ _ _ h => h) Su21 rfl rfl (fun w' hSw => by clear hSw; go_simp) ?_
        simp only [List.setIfInBounds_toArray, List.set_cons_zero, List.set_cons_succ]
        refine wpL_take 10 36 (.int .i64 n2) rfl (by kernel_rfl) (fun _ _ _ h => h) Su21 rfl rfl (fun w' hSw => by clear hSw; go_simp) ?_
        simp only [List.setIfInBounds_toArray, List.set_cons_zero, List.set_cons_succ]
        refine wpL_take 11 37 (.int .i64 f) rfl (by kernel_rfl) (fun _ _ _ h => h) Su21 rfl rfl (fun w' hSw => by clear hSw; go_simp) ?_
        simp only [List.setIfInBounds_toArray, List.set_cons_zero, List.set_cons_succ]
        refine wpL_take 12 11 (.int .i64 n2) rfl (by kernel_rfl) (fun _ _ _ h => h) Su21 rfl rfl (fun w' hSw => by clear hSw; go_simp) ?_
        simp only [List.setIfInBounds_toArray, List.set_cons_zero, List.set_cons_succ]
        refine wpL_last (x := 13) rfl (by kernel_rfl) (by kernel_rfl) (fun K hK => ?_)
        go_simp
        refine hK.out _ _ ?_
        refine NoPanic.normal ?_
        clear hK K
        rcases HM.out with hq | hq
        · have hq' : (f != 0) = true := by simpa using hq
          clear hq HM
          go_wp2
          go_ret
          exact ⟨by first | rfl | simp, Bu21⟩
        · subst hq
          by_cases hf0 : f = 0
          · subst hf0
            go_wp2
            go_ret
            exact ⟨by first | rfl | simp, Bu21⟩
          · have hq' : (f != 0) = true := by simpa using hf0
            clear hf0 HM
            go_wp2
            go_ret
            exact ⟨by first | rfl | simp, Bu21⟩
  · have hn0 := hnone he
    subst hn0
    have he' : (e != 0) = true := by simpa using he
    clear he hlen hmore hnone
    go_wp2
    go_ret
    exact ⟨rfl, BB⟩

end Go.Proofs.Ytaklbnabgcglhab.resolveOther
