/- The contract of resolve.All. -/
import Derived.Test.YtaklbnabgcglhabResF
import Derived.Test.YtaklbnabgcglhabOwnA
namespace Go.Proofs.Ytaklbnabgcglhab
open Go.RowKit Go.PlainAid

set_option maxRecDepth 100000

/-- The addresses of all imports behind those of acc, or why not. -/
def addrsFrom (k : Ker) (l : List Plc) : List Int → List Imp → List Int × Int
  | acc, [] => (acc, 0)
  | acc, i :: r => if (addrOf k l i).2 ≠ 0 then ([], (addrOf k l i).2) else addrsFrom k l (acc ++ [(addrOf k l i).1]) r
/-- What All answers. -/
def allRes (k : Ker) (l : List Plc) (m : Mod) : List Int × Int := if chkFind k l ≠ 0 then ([], chkFind k l) else if chkMod m ≠ 0 then ([], chkMod m) else addrsFrom k l [] m.imps
theorem allRes_cases (k : Ker) (l : List Plc) (m : Mod) : (chkFind k l ≠ 0 ∧ allRes k l m = ([], chkFind k l)) ∨ (chkFind k l = 0 ∧ chkMod m ≠ 0 ∧ allRes k l m = ([], chkMod m)) ∨ (chkFind k l = 0 ∧ chkMod m = 0 ∧ allRes k l m = addrsFrom k l [] m.imps) := by
  unfold allRes
  by_cases h1 : chkFind k l = 0
  · by_cases h2 : chkMod m = 0
    · exact .inr (.inr ⟨h1, h2, by rw [if_neg (by omega), if_neg (by omega)]⟩)
    · exact .inr (.inl ⟨h1, h2, by rw [if_neg (by omega), if_pos h2]⟩)
  · exact .inl ⟨h1, by rw [if_pos h1]⟩

set_option maxHeartbeats 4000000 in
theorem all_any (K : Ker) (vk : Value) (l : List PV) (v : Value) (M : Mod) (vm : Value) (w : World) (hK : IsKer w.heap.size w vk K) (hf : K.fits) (hrow : IsPlcs w.heap.size w v l) (hfit : ∀ x ∈ l, x.mod.fits) (hM : IsMod w.heap.size w vm M) (hMf : M.fits) :
    Calls Try.prog 17 #[vk, v, vm] w fun e w' => (∃ r, e = .returned (.tuple #[r, .int .i64 (allRes K (l.map PV.plc) M).2]) ∧ RowOf 1 intCell w'.heap.size w' r (allRes K (l.map PV.plc) M).1) ∧ Below w.heap.size w w' := by
  have HP : Hid (∀ W, Below w.heap.size w W → Calls Try.prog 43 #[vk, v] W fun e w' => e = .returned (.int .i64 (chkFind K (l.map PV.plc))) ∧ Below W.heap.size W w') :=
    fun W hb => wrongPlaces_any K vk l v W ((hK.below hb).more hb.size) hf ((hrow.below hb).more hb.size) hfit
  have HA : Hid (chkFind K (l.map PV.plc) = 0 → ∀ (i : Imp) W, Below w.heap.size w W → Calls Try.prog 45 #[vk, v, .agg #[.string i.mod, .string i.name, .int .i64 i.major, .int .i64 i.minor]] W fun e w' => e = .returned (.tuple #[.int .i64 (addrOf K (l.map PV.plc) i).1, .int .i64 (addrOf K (l.map PV.plc) i).2]) ∧ Below W.heap.size W w') :=
    fun h0 i W hb => address_any K vk l v i W ((hK.below hb).more hb.size) ((hrow.below hb).more hb.size) h0
  have HC : Hid (∀ W, Below w.heap.size w W → Calls Try.prog 46 #[vm] W fun e w' => e = .returned (.int .i64 (chkMod M)) ∧ Below W.heap.size W w') :=
    fun W hb => check_any M vm W ((hM.below hb).more hb.size) hMf
  obtain ⟨vke, rfl, hE⟩ := hK
  obtain ⟨pe, ke, rfl, _, _⟩ := hE
  obtain ⟨⟨a, cap, rfl, _, _⟩, _⟩ := hrow
  obtain ⟨me, mi', mp, rfl, hme, hmi, hmp⟩ := hM
  obtain ⟨qe, je, rfl, _, _⟩ := hme
  obtain ⟨qi, ji, rfl, _, hrowI⟩ := hmi
  obtain ⟨qp, jp, rfl, _, _⟩ := hmp
  have key := allRes_cases K (l.map PV.plc) M
  have hm6 : chkMod M = 0 → M.imps.length ≤ 6 := fun h => (chkMod_exps h).2.2.2.1
  generalize hL : l.map PV.plc = L at *
  generalize allRes K L M = R at *
  generalize chkFind K L = cf at *
  generalize chkMod M = cm at *
  have HAD : Hid (∀ acc x r, addrsFrom K L acc (x :: r) = if (addrOf K L x).2 ≠ 0 then ([], (addrOf K L x).2) else addrsFrom K L (acc ++ [(addrOf K L x).1]) r) := fun _ _ _ => rfl
  have HAN : Hid (∀ acc, addrsFrom K L acc [] = (acc, 0)) := fun _ => rfl
  generalize addrsFrom K L = AF at *
  generalize addrOf K L = AO at *
  obtain ⟨ma, mi, es⟩ := K
  obtain ⟨N, xa, xi, T, xs, is, ps⟩ := M
  dsimp only at *
  clear hf hfit hMf hL L
  generalize es.length = le at *
  generalize xs.length = lx at *
  generalize ps.length = lp at *
  generalize l.length = ll at *
  have HW2 : Hid (Below w.heap.size w ((w.alloc (.cells #[.int .i64 ma, .int .i64 mi, .slice pe le ke] 37)).alloc (.cells #[.string N, .int .i64 xa, .int .i64 xi, .string T, .slice qe lx je, .slice qi is.length ji, .slice qp lp jp] 44))) := ((Below.refl _ _).alloc (Nat.le_refl _) _).alloc (by simp) _
  have HK2 : Hid (CellsAt ((w.alloc (.cells #[.int .i64 ma, .int .i64 mi, .slice pe le ke] 37)).alloc (.cells #[.string N, .int .i64 xa, .int .i64 xi, .string T, .slice qe lx je, .slice qi is.length ji, .slice qp lp jp] 44)) w.heap.size 37 #[.int .i64 ma, .int .i64 mi, .slice pe le ke]) := (CellsAt.new w 37 #[.int .i64 ma, .int .i64 mi, .slice pe le ke]).kept (World.grownBy_alloc _ _ none) (by simp)
  have HC2 : Hid (CellsAt ((w.alloc (.cells #[.int .i64 ma, .int .i64 mi, .slice pe le ke] 37)).alloc (.cells #[.string N, .int .i64 xa, .int .i64 xi, .string T, .slice qe lx je, .slice qi is.length ji, .slice qp lp jp] 44)) (w.heap.size + 1) 44 #[.string N, .int .i64 xa, .int .i64 xi, .string T, .slice qe lx je, .slice qi is.length ji, .slice qp lp jp]) := by
    have := CellsAt.new (w.alloc (.cells #[.int .i64 ma, .int .i64 mi, .slice pe le ke] 37)) 44 #[.string N, .int .i64 xa, .int .i64 xi, .string T, .slice qe lx je, .slice qi is.length ji, .slice qp lp jp]
    rw [World.size_alloc] at this
    exact this
  go_enter Try.func17, Try.ntmps17
  go_wp2_with fail
  refine (HP.out _ HW2.out).mono ?_
  rintro e w3 ⟨rfl, b3⟩
  have C3 := HC2.out.below b3 (by simp)
  have K3 := HK2.out.below b3 (by simp; omega)
  have B3 := HW2.out.trans (b3.mono HW2.out.size)
  clear HC2 HK2 HW2 HP b3
  rcases key with ⟨h1, rfl⟩ | ⟨rfl, h2, rfl⟩ | ⟨rfl, rfl, rfl⟩
  · have h1' : (cf != 0) = true := by simpa using h1
    clear h1
    go_wp2
    go_ret2
    exact ⟨⟨_, rfl, ⟨none, 0, rfl, by simp, .inl rfl⟩⟩, B3⟩
  all_goals
    have c0 := C3.cell 0
    have c1 := C3.cell 1
    have c2 := C3.cell 2
    have c3 := C3.cell 3
    have c4 := C3.cell 4
    have c5 := C3.cell 5
    have c6 := C3.cell 6
    simp at c0 c1 c2 c3 c4 c5 c6
    go_wp2_with fail
    refine (HC.out _ B3).mono ?_
    rintro e w5 ⟨rfl, b5⟩
    have D5 := C3.below b5 C3.lt
    have K5 := K3.below b5 K3.lt
    have B5 := B3.trans (b5.mono B3.size)
    clear b5 HC c0 c1 c2 c3 c4 c5 c6 C3 K3
  · have h2' : (cm != 0) = true := by simpa using h2
    clear h2
    go_wp2
    go_ret2
    exact ⟨⟨_, rfl, ⟨none, 0, rfl, by simp, .inl rfl⟩⟩, B5⟩
  · have hA := fun (i : Imp) W hb => HA.out (by first | rfl | trivial) i W hb
    have HA' : Hid (∀ (i : Imp) W, Below w.heap.size w W → Calls Try.prog 45 #[.agg #[.int .i64 ma, .int .i64 mi, .slice pe le ke], .slice a ll cap, .agg #[.string i.mod, .string i.name, .int .i64 i.major, .int .i64 i.minor]] W fun e w' => e = .returned (.tuple #[.int .i64 (AO i).1, .int .i64 (AO i).2]) ∧ Below W.heap.size W w') := hA
    have h6 : is.length ≤ 6 := by first | exact hm6 rfl | exact hm6 trivial | exact hm6
    clear hA HA hm6
    have d5 := D5.cell 5
    simp at d5
    obtain ⟨ii, hii, hz0, hz1, hz2⟩ := infoInt_parts
    go_wp2_with fail
    go_loopw [10, 29] (fun f i wr => ∃ (k : Nat) (acc : List Int), k ≤ is.length ∧ i = .int .i64 k ∧ acc.length = k ∧ wr.ownsRow w5.heap.size 3 1 f acc.length (acc.flatMap intC) ∧ Hid (AF [] is = AF acc (is.drop k)) ∧ Below w5.heap.size w5 wr) (fun _ i _ => is.length - (intOf i).toNat)
    case atStart => exact ⟨0, [], Nat.zero_le _, rfl, rfl, ⟨rfl, .inl ⟨rfl, rfl⟩⟩, by show AF [] is = AF [] (is.drop 0); rfl, Below.refl _ _⟩
    case round =>
      obtain ⟨k, acc, hk, rfl, hacc, hown, HCC, B⟩ := hrel
      have B' : Below w.heap.size w wr := B5.trans (B.mono B5.size)
      have HLK : Hid (acc.length = k) := hacc
      rw [hacc] at hown
      clear hacc
      obtain ⟨av, kv, rfl⟩ := own_form hown
      by_cases hlt : k < is.length
      · obtain ⟨x, hx⟩ : ∃ x, is[k]? = some x := ⟨_, List.getElem?_eq_getElem hlt⟩
        rcases hrowI with h | ⟨b, off, rfl, hbn, hcells⟩
        · subst h; simp at hlt
        have c0 := (B'.cell (p := ⟨b, off + k * 4 + 0, none⟩) hbn).trans (hcells k _ hx 0 (by omega))
        have c1 := (B'.cell (p := ⟨b, off + k * 4 + 1, none⟩) hbn).trans (hcells k _ hx 1 (by omega))
        have c2 := (B'.cell (p := ⟨b, off + k * 4 + 2, none⟩) hbn).trans (hcells k _ hx 2 (by omega))
        have c3 := (B'.cell (p := ⟨b, off + k * 4 + 3, none⟩) hbn).trans (hcells k _ hx 3 (by omega))
        have HR : Hid (AF [] is = if (AO x).2 ≠ 0 then ([], (AO x).2) else AF (acc ++ [(AO x).1]) (is.drop (k + 1))) := by
          show AF [] is = _
          rw [HCC.out, drop_at hx, HAD.out]
        have HAx := HA'.out x
        obtain ⟨xm, xn, xma, xmi⟩ := x
        dsimp only [Imp.cell] at c0 c1 c2 c3
        dsimp only at HAx
        rw [Nat.add_zero] at c0
        generalize AO ⟨xm, xn, xma, xmi⟩ = q at HR HAx
        obtain ⟨p, q⟩ := q
        dsimp only at HR HAx
        have HAX : Hid (∀ W, Below w.heap.size w W → Calls Try.prog 45 #[.agg #[.int .i64 ma, .int .i64 mi, .slice pe le ke], .slice a ll cap, .agg #[.string xm, .string xn, .int .i64 xma, .int .i64 xmi]] W fun e w' => e = .returned (.tuple #[.int .i64 p, .int .i64 q]) ∧ Below W.heap.size W w') := HAx
        clear HCC hcells hx HAx HA' HAD HAN
        have KB := K5.below B K5.lt
        have d0 := KB.cell 0
        have d1 := KB.cell 1
        have d2 := KB.cell 2
        have zz := KB.lt
        simp at d0 d1 d2
        have HB6 : Hid (Below w.heap.size w (wr.alloc (.cells #[.string xm, .string xn, .int .i64 xma, .int .i64 xmi] 40))) := B'.alloc B'.size _
        have HB5 : Hid (Below w5.heap.size w5 (wr.alloc (.cells #[.string xm, .string xn, .int .i64 xma, .int .i64 xmi] 40))) := B.alloc B.size _
        have HO6 : Hid ((wr.alloc (.cells #[.string xm, .string xn, .int .i64 xma, .int .i64 xmi] 40)).ownsRow w5.heap.size 3 1 (.slice av k kv) k (acc.flatMap intC)) := hown.alloc _
        clear hown KB
        go_wp2_with fail
        refine (HAX.out _ HB6.out).mono ?_
        rintro e w7 ⟨rfl, b7⟩
        have O7 := own_below HO6.out b7
        have B7 := HB6.out.trans (b7.mono HB6.out.size)
        have E7 := HB5.out.trans (b7.mono HB5.out.size)
        clear b7 HO6 HB6 HB5 HAX c0 c1 c2 c3 d0 d1 d2
        by_cases hq : q = 0
        · subst hq
          have HR' : Hid (AF [] is = AF (acc ++ [p]) (is.drop (k + 1))) := by
            show AF [] is = _
            rw [HR.out]; rfl
          have hb5 : w5.heap.size ≤ w7.heap.size := E7.size
          have ha7 : k < 7 := by omega
          clear HR
          go_wp2_with (at_builtin; refine wpList_append_lies _ rfl _ _ _ rfl w5.heap.size 3 ii _ 1 8 Try.underlying46 hii hz0 hz1 hz2 rfl (by omega) (.slice av k kv) k (acc.flatMap intC) rfl (O7.alloc _) ⟨w7.heap.size, 0, none⟩ 1 1 [.int .i64 p] rfl rfl (World.news_of_block (cs := #[.int .i64 p]) (t := 3) (fr := (0, 0)) (CellsAt.new w7 3 #[.int .i64 p])) (by simp [Value.oneCell']) (by omega) (by unfold maxLen; omega) (by omega) (by simp; omega) (w7.heap.size + 1) (by simp) ?_; intro g gc w8 hown8 hgrow hat hltg)
          refine ⟨⟨k + 1, acc ++ [p], by omega, by go_num, by rw [List.length_append, HLK.out]; rfl, ?_, HR'.out, ?_⟩, by simp [intOf]; omega⟩
          · rw [List.length_append, List.flatMap_append, HLK.out]
            exact hown8
          · exact (E7.alloc E7.size _).grown hgrow (by simp; omega) (fun j hj => own_block O7 j hj)
        · have hq' : (q != 0) = true := by simpa using hq
          have HR' : Hid (AF [] is = ([], q)) := by
            show AF [] is = _
            rw [HR.out, if_pos hq]
          clear HR hq
          go_wp2
          go_ret2
          exact ⟨⟨.slice none 0 0, by rw [HR'.out]; rfl, by rw [HR'.out]; exact ⟨none, 0, rfl, by simp, .inl rfl⟩⟩, B7⟩
      · obtain rfl : k = is.length := by omega
        have HZ : Hid (AF [] is = (acc, 0)) := by
          show AF [] is = (acc, 0)
          rw [HCC.out, List.drop_length, HAN.out]
        go_wp2
        go_ret2
        exact ⟨⟨_, by rw [HZ.out]; rfl, by rw [HZ.out]; exact own_ints (by rw [HLK.out]; exact hown) (by rw [HLK.out]; omega)⟩, B'⟩

end Go.Proofs.Ytaklbnabgcglhab
