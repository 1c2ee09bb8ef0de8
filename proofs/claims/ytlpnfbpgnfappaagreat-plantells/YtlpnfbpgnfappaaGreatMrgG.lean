/- Texts that are laid together. -/
import Derived.Test.YtlpnfbpgnfappaaGreatMrgF
import Derived.Test.YtlpnfbpgnfappaaGreatMrgC
import Derived.Test.YtlpnfbpgnfappaaGreatMrgD
import Derived.Test.YtlpnfbpgnfappaaGreatMrgE
import Derived.PlainAid
import Derived.MapKept
import Derived.Test.YtlpnfbpgnfappaaGreatMrgA
import Derived.Test.YtlpnfbpgnfappaaGreatMrgB

/- The contract of resolve.All. -/
namespace Go.Proofs.YtlpnfbpgnfappaaGreat
open Go.RowKit Go.PlainAid

set_option maxRecDepth 100000

/-- The addresses of all imports behind those of acc, or why not. -/
def addrsFrom (k : Ker) (l : List Plc) : List Int → List Imp → List Int × Int
  | acc, [] => (acc, 0)
  | acc, i :: r => if (addrOf k l i).2 ≠ 0 then ([], (addrOf k l i).2) else addrsFrom k l (acc ++ [(addrOf k l i).1]) r
/-- What All answers. -/
def allRes (k : Ker) (l : List Plc) (m : Mod) : List Int × Int := if chkFind k l ≠ 0 then ([], chkFind k l) else if chkMod m ≠ 0 then ([], chkMod m) else addrsFrom k l [] m.imps
theorem allRes_cases (k : Ker) (l : List Plc) (m : Mod) : (chkFind k l ≠ 0 ∧ allRes k l m = ([], chkFind k l)) ∨ (chkFind k l = 0 ∧ chkMod m ≠ 0 ∧ allRes k l m = ([], chkMod m)) ∨ (chkFind k l = 0 ∧ chkMod m = 0 ∧ allRes k l m = addrsFrom k l [] m.imps) := by
  unfold allRes
  by_cases h1 : chkFind k l = 0
  · by_cases h2 : chkMod m = 0
    · exact .inr (.inr ⟨h1, h2, by rw [if_neg (by omega), if_neg (by omega)]⟩)
    · exact .inr (.inl ⟨h1, h2, by rw [if_neg (by omega), if_pos h2]⟩)
  · exact .inl ⟨h1, by rw [if_pos h1]⟩

set_option maxHeartbeats 4000000 in
theorem all_own (K : Ker) (vk : Value) (l : List PV) (v : Value) (M : Mod) (vm : Value) (w : World) (hK : IsKer w.heap.size w vk K) (hf : K.fits) (hrow : IsPlcs w.heap.size w v l) (hfit : ∀ x ∈ l, x.mod.fits) (hM : IsMod w.heap.size w vm M) (hMf : M.fits) :
    Calls Tryz.prog 32 #[vk, v, vm] w fun e w' => (∃ r, e = .returned (.tuple #[r, .int .i64 (allRes K (l.map PV.plc) M).2]) ∧ RowOf 1 intCell w'.heap.size w' r (allRes K (l.map PV.plc) M).1 ∧ w'.ownsRow w.heap.size 3 1 r (allRes K (l.map PV.plc) M).1.length ((allRes K (l.map PV.plc) M).1.flatMap intC)) ∧ Below w.heap.size w w' := by
  have HP : Hid (∀ W, Below w.heap.size w W → Calls Tryz.prog 86 #[vk, v] W fun e w' => e = .returned (.int .i64 (chkFind K (l.map PV.plc))) ∧ Below W.heap.size W w') :=
    fun W hb => wrongPlaces_any K vk l v W ((hK.below hb).more hb.size) hf ((hrow.below hb).more hb.size) hfit
  have HA : Hid (chkFind K (l.map PV.plc) = 0 → ∀ (i : Imp) W, Below w.heap.size w W → Calls Tryz.prog 87 #[vk, v, .agg #[.string i.mod, .string i.name, .int .i64 i.major, .int .i64 i.minor]] W fun e w' => e = .returned (.tuple #[.int .i64 (addrOf K (l.map PV.plc) i).1, .int .i64 (addrOf K (l.map PV.plc) i).2]) ∧ Below W.heap.size W w') :=
    fun h0 i W hb => address_any K vk l v i W ((hK.below hb).more hb.size) ((hrow.below hb).more hb.size) h0
  have HC : Hid (∀ W, Below w.heap.size w W → Calls Tryz.prog 64 #[vm] W fun e w' => e = .returned (.int .i64 (chkMod M)) ∧ Below W.heap.size W w') :=
    fun W hb => check_any M vm W ((hM.below hb).more hb.size) hMf
  obtain ⟨vke, rfl, hE⟩ := hK
  obtain ⟨pe, ke, rfl, _, _⟩ := hE
  obtain ⟨⟨a, cap, rfl, _, _⟩, _⟩ := hrow
  obtain ⟨me, mi', mp, rfl, hme, hmi, hmp⟩ := hM
  obtain ⟨qe, je, rfl, _, _⟩ := hme
  obtain ⟨qi, ji, rfl, _, hrowI⟩ := hmi
  obtain ⟨qp, jp, rfl, _, _⟩ := hmp
  have key := allRes_cases K (l.map PV.plc) M
  have hm6 : chkMod M = 0 → M.imps.length ≤ 6 := fun h => (chkMod_exps h).2.2.2.1
  generalize hL : l.map PV.plc = L at *
  generalize allRes K L M = R at *
  generalize chkFind K L = cf at *
  generalize chkMod M = cm at *
  have HAD : Hid (∀ acc x r, addrsFrom K L acc (x :: r) = if (addrOf K L x).2 ≠ 0 then ([], (addrOf K L x).2) else addrsFrom K L (acc ++ [(addrOf K L x).1]) r) := fun _ _ _ => rfl
  have HAN : Hid (∀ acc, addrsFrom K L acc [] = (acc, 0)) := fun _ => rfl
  generalize addrsFrom K L = AF at *
  generalize addrOf K L = AO at *
  obtain ⟨ma, mi, es⟩ := K
  obtain ⟨N, xa, xi, T, xs, is, ps⟩ := M
  dsimp only at *
  clear hf hfit hMf hL L
  generalize es.length = le at *
  generalize xs.length = lx at *
  generalize ps.length = lp at *
  generalize l.length = ll at *
  have HW2 : Hid (Below w.heap.size w ((w.alloc (.cells #[.int .i64 ma, .int .i64 mi, .slice pe le ke] 24)).alloc (.cells #[.string N, .int .i64 xa, .int .i64 xi, .string T, .slice qe lx je, .slice qi is.length ji, .slice qp lp jp] 31))) := ((Below.refl _ _).alloc (Nat.le_refl _) _).alloc (by simp) _
  have HK2 : Hid (CellsAt ((w.alloc (.cells #[.int .i64 ma, .int .i64 mi, .slice pe le ke] 24)).alloc (.cells #[.string N, .int .i64 xa, .int .i64 xi, .string T, .slice qe lx je, .slice qi is.length ji, .slice qp lp jp] 31)) w.heap.size 24 #[.int .i64 ma, .int .i64 mi, .slice pe le ke]) := (CellsAt.new w 24 #[.int .i64 ma, .int .i64 mi, .slice pe le ke]).kept (World.grownBy_alloc _ _ none) (by simp)
  have HC2 : Hid (CellsAt ((w.alloc (.cells #[.int .i64 ma, .int .i64 mi, .slice pe le ke] 24)).alloc (.cells #[.string N, .int .i64 xa, .int .i64 xi, .string T, .slice qe lx je, .slice qi is.length ji, .slice qp lp jp] 31)) (w.heap.size + 1) 31 #[.string N, .int .i64 xa, .int .i64 xi, .string T, .slice qe lx je, .slice qi is.length ji, .slice qp lp jp]) := by
    have := CellsAt.new (w.alloc (.cells #[.int .i64 ma, .int .i64 mi, .slice pe le ke] 24)) 31 #[.string N, .int .i64 xa, .int .i64 xi, .string T, .slice qe lx je, .slice qi is.length ji, .slice qp lp jp]
    rw [World.size_alloc] at this
    exact this
  go_enter Tryz.func32, Tryz.ntmps32
  go_wp2_with fail
  refine (HP.out _ HW2.out).mono ?_
  rintro e w3 ⟨rfl, b3⟩
  have C3 := HC2.out.below b3 (by simp)
  have K3 := HK2.out.below b3 (by simp; omega)
  have B3 := HW2.out.trans (b3.mono HW2.out.size)
  clear HC2 HK2 HW2 HP b3
  rcases key with ⟨h1, rfl⟩ | ⟨rfl, h2, rfl⟩ | ⟨rfl, rfl, rfl⟩
  · have h1' : (cf != 0) = true := by simpa using h1
    clear h1
    go_wp2
    go_ret2
    exact ⟨⟨_, rfl, ⟨none, 0, rfl, by simp, .inl rfl⟩, World.ownsRow_nil _ _ _ _⟩, B3⟩
  all_goals
    have c0 := C3.cell 0
    have c1 := C3.cell 1
    have c2 := C3.cell 2
    have c3 := C3.cell 3
    have c4 := C3.cell 4
    have c5 := C3.cell 5
    have c6 := C3.cell 6
    simp at c0 c1 c2 c3 c4 c5 c6
    go_wp2_with fail
    refine (HC.out _ B3).mono ?_
    rintro e w5 ⟨rfl, b5⟩
    have D5 := C3.below b5 C3.lt
    have K5 := K3.below b5 K3.lt
    have B5 := B3.trans (b5.mono B3.size)
    clear b5 HC c0 c1 c2 c3 c4 c5 c6 C3 K3
  · have h2' : (cm != 0) = true := by simpa using h2
    clear h2
    go_wp2
    go_ret2
    exact ⟨⟨_, rfl, ⟨none, 0, rfl, by simp, .inl rfl⟩, World.ownsRow_nil _ _ _ _⟩, B5⟩
  · have hA := fun (i : Imp) W hb => HA.out (by first | rfl | trivial) i W hb
    have HA' : Hid (∀ (i : Imp) W, Below w.heap.size w W → Calls Tryz.prog 87 #[.agg #[.int .i64 ma, .int .i64 mi, .slice pe le ke], .slice a ll cap, .agg #[.string i.mod, .string i.name, .int .i64 i.major, .int .i64 i.minor]] W fun e w' => e = .returned (.tuple #[.int .i64 (AO i).1, .int .i64 (AO i).2]) ∧ Below W.heap.size W w') := hA
    have h6 : is.length ≤ 6 := by first | exact hm6 rfl | exact hm6 trivial | exact hm6
    clear hA HA hm6
    have d5 := D5.cell 5
    simp at d5
    obtain ⟨ii, hii, hz0, hz1, hz2⟩ := infoInt_parts
    go_wp2_with fail
    go_loopw [10, 29] (fun f i wr => ∃ (k : Nat) (acc : List Int), k ≤ is.length ∧ i = .int .i64 k ∧ acc.length = k ∧ wr.ownsRow w5.heap.size 3 1 f acc.length (acc.flatMap intC) ∧ Hid (AF [] is = AF acc (is.drop k)) ∧ Below w5.heap.size w5 wr) (fun _ i _ => is.length - (intOf i).toNat)
    case atStart => exact ⟨0, [], Nat.zero_le _, rfl, rfl, ⟨rfl, .inl ⟨rfl, rfl⟩⟩, by show AF [] is = AF [] (is.drop 0); rfl, Below.refl _ _⟩
    case round =>
      obtain ⟨k, acc, hk, rfl, hacc, hown, HCC, B⟩ := hrel
      have B' : Below w.heap.size w wr := B5.trans (B.mono B5.size)
      have HLK : Hid (acc.length = k) := hacc
      rw [hacc] at hown
      clear hacc
      obtain ⟨av, kv, rfl⟩ := own_form hown
      by_cases hlt : k < is.length
      · obtain ⟨x, hx⟩ : ∃ x, is[k]? = some x := ⟨_, List.getElem?_eq_getElem hlt⟩
        rcases hrowI with h | ⟨b, off, rfl, hbn, hcells⟩
        · subst h; simp at hlt
        have c0 := (B'.cell (p := ⟨b, off + k * 4 + 0, none⟩) hbn).trans (hcells k _ hx 0 (by omega))
        have c1 := (B'.cell (p := ⟨b, off + k * 4 + 1, none⟩) hbn).trans (hcells k _ hx 1 (by omega))
        have c2 := (B'.cell (p := ⟨b, off + k * 4 + 2, none⟩) hbn).trans (hcells k _ hx 2 (by omega))
        have c3 := (B'.cell (p := ⟨b, off + k * 4 + 3, none⟩) hbn).trans (hcells k _ hx 3 (by omega))
        have HR : Hid (AF [] is = if (AO x).2 ≠ 0 then ([], (AO x).2) else AF (acc ++ [(AO x).1]) (is.drop (k + 1))) := by
          show AF [] is = _
          rw [HCC.out, drop_at hx, HAD.out]
        have HAx := HA'.out x
        obtain ⟨xm, xn, xma, xmi⟩ := x
        dsimp only [Imp.cell] at c0 c1 c2 c3
        dsimp only at HAx
        rw [Nat.add_zero] at c0
        generalize AO ⟨xm, xn, xma, xmi⟩ = q at HR HAx
        obtain ⟨p, q⟩ := q
        dsimp only at HR HAx
        have HAX : Hid (∀ W, Below w.heap.size w W → Calls Tryz.prog 87 #[.agg #[.int .i64 ma, .int .i64 mi, .slice pe le ke], .slice a ll cap, .agg #[.string xm, .string xn, .int .i64 xma, .int .i64 xmi]] W fun e w' => e = .returned (.tuple #[.int .i64 p, .int .i64 q]) ∧ Below W.heap.size W w') := HAx
        clear HCC hcells hx HAx HA' HAD HAN
        have KB := K5.below B K5.lt
        have d0 := KB.cell 0
        have d1 := KB.cell 1
        have d2 := KB.cell 2
        have zz := KB.lt
        simp at d0 d1 d2
        have HB6 : Hid (Below w.heap.size w (wr.alloc (.cells #[.string xm, .string xn, .int .i64 xma, .int .i64 xmi] 106))) := B'.alloc B'.size _
        have HB5 : Hid (Below w5.heap.size w5 (wr.alloc (.cells #[.string xm, .string xn, .int .i64 xma, .int .i64 xmi] 106))) := B.alloc B.size _
        have HO6 : Hid ((wr.alloc (.cells #[.string xm, .string xn, .int .i64 xma, .int .i64 xmi] 106)).ownsRow w5.heap.size 3 1 (.slice av k kv) k (acc.flatMap intC)) := hown.alloc _
        clear hown KB
        go_wp2_with fail
        refine (HAX.out _ HB6.out).mono ?_
        rintro e w7 ⟨rfl, b7⟩
        have O7 := own_below HO6.out b7
        have B7 := HB6.out.trans (b7.mono HB6.out.size)
        have E7 := HB5.out.trans (b7.mono HB5.out.size)
        clear b7 HO6 HB6 HB5 HAX c0 c1 c2 c3 d0 d1 d2
        by_cases hq : q = 0
        · subst hq
          have HR' : Hid (AF [] is = AF (acc ++ [p]) (is.drop (k + 1))) := by
            show AF [] is = _
            rw [HR.out]; rfl
          have hb5 : w5.heap.size ≤ w7.heap.size := E7.size
          have ha7 : k < 7 := by omega
          clear HR
          go_wp2_with (at_builtin; refine wpList_append_lies _ rfl _ _ _ rfl w5.heap.size 3 ii _ 1 8 Tryz.underlying64 hii hz0 hz1 hz2 rfl (by omega) (.slice av k kv) k (acc.flatMap intC) rfl (O7.alloc _) ⟨w7.heap.size, 0, none⟩ 1 1 [.int .i64 p] rfl rfl (World.news_of_block (cs := #[.int .i64 p]) (t := 3) (fr := (0, 0)) (CellsAt.new w7 3 #[.int .i64 p])) (by simp [Value.oneCell']) (by omega) (by unfold maxLen; omega) (by omega) (by simp; omega) (w7.heap.size + 1) (by simp) ?_; intro g gc w8 hown8 hgrow hat hltg)
          refine ⟨⟨k + 1, acc ++ [p], by omega, by go_num, by rw [List.length_append, HLK.out]; rfl, ?_, HR'.out, ?_⟩, by simp [intOf]; omega⟩
          · rw [List.length_append, List.flatMap_append, HLK.out]
            exact hown8
          · exact (E7.alloc E7.size _).grown hgrow (by simp; omega) (fun j hj => own_block O7 j hj)
        · have hq' : (q != 0) = true := by simpa using hq
          have HR' : Hid (AF [] is = ([], q)) := by
            show AF [] is = _
            rw [HR.out, if_pos hq]
          clear HR hq
          go_wp2
          go_ret2
          exact ⟨⟨.slice none 0 0, by rw [HR'.out]; rfl, by rw [HR'.out]; exact ⟨none, 0, rfl, by simp, .inl rfl⟩, by rw [HR'.out]; exact World.ownsRow_nil _ _ _ _⟩, B7⟩
      · obtain rfl : k = is.length := by omega
        have HZ : Hid (AF [] is = (acc, 0)) := by
          show AF [] is = (acc, 0)
          rw [HCC.out, List.drop_length, HAN.out]
        go_wp2
        go_ret2
        exact ⟨⟨_, by rw [HZ.out]; rfl, by rw [HZ.out]; exact own_ints (by rw [HLK.out]; exact hown) (by rw [HLK.out]; omega), by rw [HZ.out]; exact own_down (by rw [HLK.out]; exact hown) B5.size⟩, B'⟩
theorem all_any (K : Ker) (vk : Value) (l : List PV) (v : Value) (M : Mod) (vm : Value) (w : World) (hK : IsKer w.heap.size w vk K) (hf : K.fits) (hrow : IsPlcs w.heap.size w v l) (hfit : ∀ x ∈ l, x.mod.fits) (hM : IsMod w.heap.size w vm M) (hMf : M.fits) :
    Calls Tryz.prog 32 #[vk, v, vm] w fun e w' => (∃ r, e = .returned (.tuple #[r, .int .i64 (allRes K (l.map PV.plc) M).2]) ∧ RowOf 1 intCell w'.heap.size w' r (allRes K (l.map PV.plc) M).1) ∧ Below w.heap.size w w' := by
  refine (all_own K vk l v M vm w hK hf hrow hfit hM hMf).mono ?_
  rintro e w' ⟨⟨r, h1, h2, _⟩, hb⟩
  exact ⟨⟨r, h1, h2⟩, hb⟩

end Go.Proofs.YtlpnfbpgnfappaaGreat

/- The contract of patch.Value. -/
namespace Go.Proofs.YtlpnfbpgnfappaaGreat
open Go.RowKit Go.PlainAid

set_option maxRecDepth 100000

set_option maxHeartbeats 1000000 in
theorem value_good (kind sym add place wd n R E : Int) (fits : Bool) (g : FuncId) (w : World) (hK : ∀ w x y, Sem.run Tryz.prog (callFunc g #[x, y]) w = .ok (.enter g #[x, y]) w) (s0 : 0 ≤ sym) (s1 : sym ≤ 65535) (a0 : 0 ≤ add) (a1 : add ≤ 65535) (h1 : betw sym 0 65535 = true) (h2 : betw place 0 65535 = true)
    (HW : Hid (∀ w, Calls Tryz.prog 240 #[.int .i64 kind] w fun e w' => e = .returned (.tuple #[.int .i64 wd, .int .i64 0]) ∧ w' = w))
    (HF : Hid (∀ w, Calls Tryz.prog 246 #[.int .i64 kind] w fun e w' => e = .returned (.agg #[.int .i64 kind, .func (.func g) #[] #[]]) ∧ Below w.heap.size w w'))
    (HG : Hid (∀ w, Calls Tryz.prog g #[.int .i64 (sym + add), .int .i64 place] w fun e w' => e = .returned (.tuple #[.int .i64 n, .bool fits]) ∧ w' = w))
    (n0 : -65535 ≤ n) (hres : (fits = false ∧ R = 0 ∧ E = 4) ∨ (fits = true ∧ 0 ≤ n ∧ R = n ∧ E = 0) ∨ (fits = true ∧ n < 0 ∧ wd = 4 ∧ R = n + 4294967296 ∧ E = 0) ∨ (fits = true ∧ n < 0 ∧ wd = 3 ∧ R = n + 16777216 ∧ E = 0)) :
    Calls Tryz.prog 241 #[.int .i64 kind, .int .i64 sym, .int .i64 add, .int .i64 place] w fun e w' => e = .returned (.tuple #[.int .i64 R, .int .i64 E]) ∧ Below w.heap.size w w' := by
  have hfd : ∀ w : World, (Instr.field 273 (.agg #[.int .i64 kind, .func (.func g) #[] #[]]) 1).run Tryz.prog w = .ok (.func (.func g) #[] #[]) w := fun _ => by kernel_rfl
  rcases hres with ⟨rfl, rfl, rfl⟩ | ⟨rfl, hn, rfl, rfl⟩ | ⟨rfl, hn, rfl, rfl, rfl⟩ | ⟨rfl, hn, rfl, rfl, rfl⟩
  all_goals
    go_enter Tryz.func241, Tryz.ntmps241
    go_wp2_with (first | (go_at_call 240; refine (HW.out _).mono ?_; rintro e w' ⟨rfl, rfl⟩) | (go_at_call 245; refine (isAddress_any _ _).mono ?_; rintro e w' ⟨rfl, rfl⟩))
    refine (HF.out _).mono ?_
    rintro e w1 ⟨rfl, b1⟩
    go_wp2_with fail
    refine Calls.mono (HG.out _) ?_
    rintro e w2 ⟨rfl, rfl⟩
    go_wp2
    go_ret2
    exact ⟨rfl, b1⟩

set_option maxHeartbeats 1000000 in
theorem value_any (kind sym add place : Int) (w : World) :
    Calls Tryz.prog 241 #[.int .i64 kind, .int .i64 sym, .int .i64 add, .int .i64 place] w fun e w' => e = .returned (.tuple #[.int .i64 (valNum kind sym add place), .int .i64 (valErr kind sym add place)]) ∧ Below w.heap.size w w' := by
  rcases val_cases kind sym add place with ⟨h0, hE, hN⟩ | ⟨h0, hr, hE, hN⟩ | ⟨hr, key⟩
  · rw [hE, hN]
    have HW : Hid (∀ w, Calls Tryz.prog 240 #[.int .i64 kind] w fun e w' => e = .returned (.tuple #[.int .i64 0, .int .i64 7]) ∧ w' = w) := fun w => by
      have := patchWidth_any kind w
      rwa [widthErr, if_pos h0, h0] at this
    clear h0 hE hN
    go_enter Tryz.func241, Tryz.ntmps241
    go_wp2_with (go_at_call 240; refine (HW.out _).mono ?_; rintro e w' ⟨rfl, rfl⟩)
    go_ret2
    exact ⟨rfl, Below.refl _ _⟩
  · rw [hE, hN]
    have HW : Hid (∀ w, Calls Tryz.prog 240 #[.int .i64 kind] w fun e w' => e = .returned (.tuple #[.int .i64 (width kind), .int .i64 0]) ∧ w' = w) := fun w => by
      have := patchWidth_any kind w
      rwa [widthErr, if_neg h0] at this
    clear h0 hE hN
    generalize width kind = wd at HW
    unfold valRange at hr
    cases h1 : betw sym 0 65535
    · clear hr
      go_enter Tryz.func241, Tryz.ntmps241
      go_wp2_with (first | (go_at_call 240; refine (HW.out _).mono ?_; rintro e w' ⟨rfl, rfl⟩) | (go_at_call 245; refine (isAddress_any _ _).mono ?_; rintro e w' ⟨rfl, rfl⟩))
      go_ret2
      exact ⟨rfl, Below.refl _ _⟩
    cases h2 : betw place 0 65535
    · clear hr
      go_enter Tryz.func241, Tryz.ntmps241
      go_wp2_with (first | (go_at_call 240; refine (HW.out _).mono ?_; rintro e w' ⟨rfl, rfl⟩) | (go_at_call 245; refine (isAddress_any _ _).mono ?_; rintro e w' ⟨rfl, rfl⟩))
      go_ret2
      exact ⟨rfl, Below.refl _ _⟩
    rw [h1, h2] at hr
    have h3 := betw_not (n := add) (l := 0) (m := 65535) (by simpa using hr)
    clear hr
    by_cases h4 : add < 0
    · go_enter Tryz.func241, Tryz.ntmps241
      go_wp2_with (first | (go_at_call 240; refine (HW.out _).mono ?_; rintro e w' ⟨rfl, rfl⟩) | (go_at_call 245; refine (isAddress_any _ _).mono ?_; rintro e w' ⟨rfl, rfl⟩))
      go_ret2
      exact ⟨rfl, Below.refl _ _⟩
    · have h5 : 65535 < add := by omega
      clear h3
      go_enter Tryz.func241, Tryz.ntmps241
      go_wp2_with (first | (go_at_call 240; refine (HW.out _).mono ?_; rintro e w' ⟨rfl, rfl⟩) | (go_at_call 245; refine (isAddress_any _ _).mono ?_; rintro e w' ⟨rfl, rfl⟩))
      go_ret2
      exact ⟨rfl, Below.refl _ _⟩
  · obtain ⟨s0, s1, p0, p1, a0, a1⟩ := valRange_true hr
    have h1 : betw sym 0 65535 = true := betw_true s0 s1
    have h2 : betw place 0 65535 = true := betw_true p0 p1
    clear hr
    rcases key with ⟨rfl, hE, hN⟩ | ⟨rfl, hE, hN⟩ | ⟨rfl, hE, hN⟩ | ⟨rfl, hE, hN⟩ | ⟨rfl, hp, hE, hN⟩ | ⟨rfl, hp, hE, hN⟩
    all_goals rw [hE, hN]; clear hE hN
    · exact value_good 1 sym add place 4 (sym + add) _ _ true 250 w (fun w x y => enters_of Tryz.func250 (by kernel_rfl) rfl _ w) s0 s1 a0 a1 h1 h2 (fun w => patchWidth_any 1 w) (fun w => formulaOf_any 1 (by omega) (by omega) w) (fun w => formula1_any _ _ w) (by omega) (.inr (.inl ⟨rfl, by omega, rfl, rfl⟩))
    · refine value_good 2 sym add place 4 (sym + add - place) _ _ true 251 w (fun w x y => enters_of Tryz.func251 (by kernel_rfl) rfl _ w) s0 s1 a0 a1 h1 h2 (fun w => patchWidth_any 2 w) (fun w => formulaOf_any 2 (by omega) (by omega) w) (fun w => formula2_any _ _ (by omega) (by omega) p0 p1 w) (by omega) ?_
      by_cases hneg : sym + add - place < 0
      · exact .inr (.inr (.inl ⟨rfl, hneg, rfl, by omega, rfl⟩))
      · exact .inr (.inl ⟨rfl, by omega, by omega, rfl⟩)
    · exact value_good 3 sym add place 2 ((sym + add) / 65536) _ _ true 252 w (fun w x y => enters_of Tryz.func252 (by kernel_rfl) rfl _ w) s0 s1 a0 a1 h1 h2 (fun w => patchWidth_any 3 w) (fun w => formulaOf_any 3 (by omega) (by omega) w) (fun w => formula3_any _ _ w) (by omega) (.inr (.inl ⟨rfl, by omega, rfl, rfl⟩))
    · exact value_good 4 sym add place 2 ((sym + add) % 65536) _ _ true 253 w (fun w x y => enters_of Tryz.func253 (by kernel_rfl) rfl _ w) s0 s1 a0 a1 h1 h2 (fun w => patchWidth_any 4 w) (fun w => formulaOf_any 4 (by omega) (by omega) w) (fun w => formula4_any _ _ (by omega) (by omega) w) (by omega) (.inr (.inl ⟨rfl, by omega, rfl, rfl⟩))
    · have hb := tdiv2_bd (sym + add - place)
      refine value_good 5 sym add place 3 ((sym + add - place).tdiv 2) _ _ ((sym + add - place).tmod 2 == 0) 254 w (fun w x y => enters_of Tryz.func254 (by kernel_rfl) rfl _ w) s0 s1 a0 a1 h1 h2 (fun w => patchWidth_any 5 w) (fun w => formulaOf_any 5 (by omega) (by omega) w) (fun w => formula5_any _ _ (by omega) (by omega) p0 p1 w) (by omega) ?_
      exact .inl ⟨by rw [tmod2_even, hp]; rfl, rfl, rfl⟩
    · have hb := tdiv2_bd (sym + add - place)
      have he := tdiv2_even _ hp
      refine value_good 5 sym add place 3 ((sym + add - place).tdiv 2) _ _ ((sym + add - place).tmod 2 == 0) 254 w (fun w x y => enters_of Tryz.func254 (by kernel_rfl) rfl _ w) s0 s1 a0 a1 h1 h2 (fun w => patchWidth_any 5 w) (fun w => formulaOf_any 5 (by omega) (by omega) w) (fun w => formula5_any _ _ (by omega) (by omega) p0 p1 w) (by omega) ?_
      have ht : ((sym + add - place).tmod 2 == 0) = true := by rw [tmod2_even, hp]; rfl
      rw [ht, he]
      by_cases hneg : sym + add - place < 0
      · exact .inr (.inr (.inr ⟨rfl, by omega, rfl, by omega, rfl⟩))
      · exact .inr (.inl ⟨rfl, by omega, by omega, rfl⟩)

end Go.Proofs.YtlpnfbpgnfappaaGreat

/- The contracts of patch.Apply and of what must be in any case. -/
namespace Go.Proofs.YtlpnfbpgnfappaaGreat
open Go.RowKit Go.PlainAid

set_option maxRecDepth 100000

def appErr (len : Int) (p : Pat) (sym base : Int) : Int :=
  if width p.kind = 0 then 7 else if (betw p.add 0 65535 && betw p.pos 0 (len - width p.kind) && betw base 0 65279) = false then 3 else valErr p.kind sym p.add (base + p.pos)
def appStr (s : ByteArray) (p : Pat) (sym base : Int) : ByteArray :=
  if appErr s.size p sym base = 0 then putS s p.pos.toNat (width p.kind).toNat (valNum p.kind sym p.add (base + p.pos)) else ⟨#[]⟩

theorem valErr_add {kind sym add place : Int} (h : width kind ≠ 0) (ha : betw add 0 65535 = false) : valErr kind sym add place = 3 := by
  unfold valErr valRange
  rw [if_neg h, ha]
  simp

theorem app_cases (s : ByteArray) (p : Pat) (sym base : Int) :
    (width p.kind = 0 ∧ appErr s.size p sym base = 7 ∧ appStr s p sym base = ⟨#[]⟩) ∨
    (width p.kind ≠ 0 ∧ (p.pos < 0 ∨ 0 ≤ p.pos ∧ s.size - width p.kind < p.pos ∨ 0 ≤ p.pos ∧ p.pos ≤ s.size - width p.kind ∧ base < 0 ∨ 0 ≤ p.pos ∧ p.pos ≤ s.size - width p.kind ∧ 0 ≤ base ∧ 65279 < base) ∧ appErr s.size p sym base = 3 ∧ appStr s p sym base = ⟨#[]⟩) ∨
    (width p.kind ≠ 0 ∧ 0 ≤ p.pos ∧ p.pos ≤ s.size - width p.kind ∧ 0 ≤ base ∧ base ≤ 65279 ∧
      (valErr p.kind sym p.add (base + p.pos) ≠ 0 ∧ appErr s.size p sym base = valErr p.kind sym p.add (base + p.pos) ∧ appStr s p sym base = ⟨#[]⟩ ∨
       valErr p.kind sym p.add (base + p.pos) = 0 ∧ appErr s.size p sym base = 0 ∧ appStr s p sym base = putS s p.pos.toNat (width p.kind).toNat (valNum p.kind sym p.add (base + p.pos)))) := by
  have hS : appErr s.size p sym base ≠ 0 → appStr s p sym base = ⟨#[]⟩ := fun h => by rw [appStr, if_neg h]
  have hS' : appErr s.size p sym base = 0 → appStr s p sym base = putS s p.pos.toNat (width p.kind).toNat (valNum p.kind sym p.add (base + p.pos)) := fun h => by rw [appStr, if_pos h]
  by_cases h0 : width p.kind = 0
  · have e : appErr s.size p sym base = 7 := by rw [appErr, if_pos h0]
    exact .inl ⟨h0, e, hS (by rw [e]; decide)⟩
  by_cases h1 : p.pos < 0 ∨ 0 ≤ p.pos ∧ s.size - width p.kind < p.pos ∨ 0 ≤ p.pos ∧ p.pos ≤ s.size - width p.kind ∧ base < 0 ∨ 0 ≤ p.pos ∧ p.pos ≤ s.size - width p.kind ∧ 0 ≤ base ∧ 65279 < base
  · have e : appErr s.size p sym base = 3 := by
      rw [appErr, if_neg h0, if_pos]
      rcases h1 with h | h | h | h
      · rw [betw_false (n := p.pos) (.inl h)]; simp
      · rw [betw_false (n := p.pos) (.inr h.2)]; simp
      · rw [betw_false (n := base) (.inl h.2.2)]; simp
      · rw [betw_false (n := base) (.inr h.2.2.2)]; simp
    exact .inr (.inl ⟨h0, h1, e, hS (by rw [e]; decide)⟩)
  · have g1 : betw p.pos 0 (s.size - width p.kind) = true := betw_true (by omega) (by omega)
    have g2 : betw base 0 65279 = true := betw_true (by omega) (by omega)
    have e : appErr s.size p sym base = valErr p.kind sym p.add (base + p.pos) := by
      rw [appErr, if_neg h0, g1, g2]
      cases ha : betw p.add 0 65535
      · rw [if_pos (by rfl), valErr_add h0 ha]
      · rw [if_neg (by decide)]
    refine .inr (.inr ⟨h0, by omega, by omega, by omega, by omega, ?_⟩)
    by_cases hv : valErr p.kind sym p.add (base + p.pos) = 0
    · exact .inr ⟨hv, e.trans hv, hS' (e.trans hv)⟩
    · exact .inl ⟨hv, e, hS (by rw [e]; exact hv)⟩

set_option maxHeartbeats 1000000 in
theorem apply_any (s : ByteArray) (p : Pat) (sym base : Int) (w : World) (hs : s.size ≤ 140737488351232) :
    Calls Tryz.prog 229 #[.string s, .agg #[.int .i64 p.kind, .int .i64 p.pos, .int .i64 p.sym, .int .i64 p.add], .int .i64 sym, .int .i64 base] w fun e w' => e = .returned (.tuple #[.string (appStr s p sym base), .int .i64 (appErr s.size p sym base)]) ∧ Below w.heap.size w w' := by
  have key := app_cases s p sym base
  have HV : Hid (∀ w, Calls Tryz.prog 241 #[.int .i64 p.kind, .int .i64 sym, .int .i64 p.add, .int .i64 (base + p.pos)] w fun e w' => e = .returned (.tuple #[.int .i64 (valNum p.kind sym p.add (base + p.pos)), .int .i64 (valErr p.kind sym p.add (base + p.pos))]) ∧ Below w.heap.size w w') := fun w => value_any _ _ _ _ w
  have HW : Hid (∀ w, Calls Tryz.prog 240 #[.int .i64 p.kind] w fun e w' => e = .returned (.tuple #[.int .i64 (width p.kind), .int .i64 (widthErr p.kind)]) ∧ w' = w) := fun w => patchWidth_any _ w
  have hwe : widthErr p.kind = if width p.kind = 0 then 7 else 0 := rfl
  have HP : Hid (0 ≤ p.pos → p.pos ≤ s.size - width p.kind → width p.kind ≠ 0 → ∀ w, Calls Tryz.prog 167 #[.string s, .int .i64 p.pos, .int .i64 (width p.kind), .int .i64 (valNum p.kind sym p.add (base + p.pos))] w fun e w' =>
      e = .returned (.tuple #[.string (putS s p.pos.toNat (width p.kind).toNat (valNum p.kind sym p.add (base + p.pos))), .int .i64 0]) ∧ Below w.heap.size w w') := fun g0 g1 g2 w => by
    have hb := width_bd p.kind
    have hz : wrongAt s.size p.pos (width p.kind) = 0 := by unfold wrongAt; rw [if_neg (by omega), if_neg (by omega)]
    have := put_any s p.pos (width p.kind) (valNum p.kind sym p.add (base + p.pos)) w hs
    rwa [putR, if_pos hz, hz] at this
  have hwb := width_bd p.kind
  obtain ⟨K, A, S, D⟩ := p
  dsimp only at *
  generalize appErr s.size ⟨K, A, S, D⟩ sym base = RE at *
  generalize appStr s ⟨K, A, S, D⟩ sym base = RS at *
  generalize putS s A.toNat (width K).toNat (valNum K sym D (base + A)) = PS at *
  generalize valNum K sym D (base + A) = vn at *
  generalize valErr K sym D (base + A) = ve at *
  generalize widthErr K = we at *
  generalize width K = wd at *
  rcases key with ⟨rfl, rfl, rfl⟩ | ⟨h0, h1, rfl, rfl⟩ | ⟨h0, q1, q2, q3, q4, ⟨h2, rfl, rfl⟩ | ⟨rfl, rfl, rfl⟩⟩
  · rw [if_pos rfl] at hwe
    subst hwe
    go_enter Tryz.func229, Tryz.ntmps229
    go_wp2_with (go_at_call 240; refine (HW.out _).mono ?_; rintro e w' ⟨rfl, rfl⟩)
    go_ret2
    exact ⟨rfl, (Below.refl _ _).alloc (Nat.le_refl _) _⟩
  · rw [if_neg h0] at hwe
    subst hwe
    rcases h1 with h1 | ⟨h1, h2⟩ | ⟨h1, h2, h3⟩ | ⟨h1, h2, h3, h4⟩
    all_goals
      go_enter Tryz.func229, Tryz.ntmps229
      go_wp2_with (go_at_call 240; refine (HW.out _).mono ?_; rintro e w' ⟨rfl, rfl⟩)
      go_ret2
      exact ⟨rfl, (Below.refl _ _).alloc (Nat.le_refl _) _⟩
  · rw [if_neg h0] at hwe
    subst hwe
    have h3 : (RE != 0) = true := by simpa using h2
    go_enter Tryz.func229, Tryz.ntmps229
    go_wp2_with (go_at_call 240; refine (HW.out _).mono ?_; rintro e w' ⟨rfl, rfl⟩)
    refine (HV.out _).mono ?_
    rintro e w1 ⟨rfl, b1⟩
    go_wp2
    go_ret2
    exact ⟨rfl, ((Below.refl _ _).alloc (Nat.le_refl _) _).trans (b1.mono (by simp))⟩
  · rw [if_neg h0] at hwe
    subst hwe
    go_enter Tryz.func229, Tryz.ntmps229
    go_wp2_with (go_at_call 240; refine (HW.out _).mono ?_; rintro e w' ⟨rfl, rfl⟩)
    refine (HV.out _).mono ?_
    rintro e w1 ⟨rfl, b1⟩
    have B1 := ((Below.refl w.heap.size w).alloc (Nat.le_refl _) (.cells #[.int .i64 K, .int .i64 A, .int .i64 S, .int .i64 D] 113)).trans (b1.mono (by simp))
    have c1 : w1.cell? ⟨w.heap.size, 1, none⟩ = some (.int .i64 A) := by
      have := b1.cell (p := ⟨w.heap.size, 1, none⟩) (by simp)
      rw [this]; simp
    go_wp2_with fail
    refine (HP.out q1 q2 h0 _).mono ?_
    rintro e w2 ⟨rfl, b2⟩
    go_wp2
    go_ret2
    exact ⟨rfl, B1.trans (b2.mono B1.size)⟩

end Go.Proofs.YtlpnfbpgnfappaaGreat

/- Where the first one is of which something holds. -/
namespace Go.Proofs.YtlpnfbpgnfappaaGreat
open Go.RowKit Go.PlainAid

def ixFrom {α : Type} (p : α → Bool) (k : Nat) : List α → Int
  | [] => -1
  | x :: l => if p x then (k : Int) else ixFrom p (k + 1) l

theorem ix_find {α : Type} (p : α → Bool) : ∀ (l : List α) (k : Nat), (l.find? p = none ∧ ixFrom p k l = -1) ∨ ∃ j x, l.find? p = some x ∧ l[j]? = some x ∧ ixFrom p k l = ((k + j : Nat) : Int)
  | [], _ => .inl ⟨rfl, rfl⟩
  | y :: l, k => by
    unfold ixFrom
    cases hy : p y
    · rcases ix_find p l (k + 1) with ⟨h1, h2⟩ | ⟨j, x, h1, h2, h3⟩
      · exact .inl ⟨by rw [List.find?_cons, hy]; exact h1, by simpa using h2⟩
      · refine .inr ⟨j + 1, x, by rw [List.find?_cons, hy]; exact h1, by simpa using h2, ?_⟩
        rw [if_neg (by decide), h3]
        congr 1; omega
    · exact .inr ⟨0, y, by rw [List.find?_cons, hy], rfl, by simp⟩

end Go.Proofs.YtlpnfbpgnfappaaGreat

/- One is come to from another one, in one step or more; a table of that. -/
namespace Go.Proofs.YtlpnfbpgnfappaaGreat
open Go.RowKit Go.PlainAid

/-- One is come to from another one, in one step or more: it is in all that holds the first steps and is closed under steps. -/
def Via (E : Nat → Nat → Prop) (i k : Nat) : Prop := ∀ S : Nat → Prop, (∀ q, E i q → S q) → (∀ j q, S j → E j q → S q) → S k
theorem Via.one {E : Nat → Nat → Prop} {i k : Nat} (e : E i k) : Via E i k := fun _ h0 _ => h0 _ e
theorem Via.more {E : Nat → Nat → Prop} {i j k : Nat} (h : Via E i j) (e : E j k) : Via E i k := fun S h0 h1 => h1 _ _ (h S h0 h1) e
theorem Via.walk {E : Nat → Nat → Prop} {i : Nat} {M : Nat → Prop} (one : ∀ k, E i k → M k) (more : ∀ j k, Via E i j → M j → E j k → M k) {k : Nat} (h : Via E i k) : M k :=
  (h (fun q => Via E i q ∧ M q) (fun q e => ⟨.one e, one q e⟩) (fun j q hj e => ⟨hj.1.more e, more j q hj.1 hj.2 e⟩)).2
theorem Via.trans {E : Nat → Nat → Prop} {i j k : Nat} (h : Via E i j) (g : Via E j k) : Via E i k :=
  g.walk (M := fun k => Via E i k) (fun _ e => h.more e) (fun _ _ _ ih e => ih.more e)
/-- What is closed under single steps is closed under many. -/
theorem Via.closed {E : Nat → Nat → Prop} {S : Nat → Prop} {i : Nat} (h0 : ∀ k, E i k → S k) (hS : ∀ j k, S j → E j k → S k) {k : Nat} (h : Via E i k) : S k := h S h0 hS

/-- One is come to from another one, by way of those below a number alone. -/
def ViaB (E : Nat → Nat → Prop) (m i k : Nat) : Prop := ∀ S : Nat → Prop, (∀ q, E i q → S q) → (∀ j q, S j → j < m → E j q → S q) → S k
theorem ViaB.one {E : Nat → Nat → Prop} {m i k : Nat} (e : E i k) : ViaB E m i k := fun _ h0 _ => h0 _ e
theorem ViaB.more {E : Nat → Nat → Prop} {m i j k : Nat} (h : ViaB E m i j) (hj : j < m) (e : E j k) : ViaB E m i k := fun S h0 h1 => h1 _ _ (h S h0 h1) hj e
theorem ViaB.none {E : Nat → Nat → Prop} {i k : Nat} (h : ViaB E 0 i k) : E i k := h (fun q => E i q) (fun _ e => e) (fun _ _ _ hj _ => absurd hj (by omega))
/-- By way of one number more: without it, or to it and from it on. -/
theorem ViaB.part {E : Nat → Nat → Prop} {m i k : Nat} (h : ViaB E (m + 1) i k) : ViaB E m i k ∨ (ViaB E m i m ∧ ViaB E m m k) := by
  refine h (fun q => ViaB E m i q ∨ (ViaB E m i m ∧ ViaB E m m q)) (fun q e => .inl (.one e)) (fun j q ih hj e => ?_)
  by_cases hjm : j = m
  · subst hjm
    rcases ih with ih | ⟨ih, _⟩
    · exact .inr ⟨ih, .one e⟩
    · exact .inr ⟨ih, .one e⟩
  · rcases ih with ih | ⟨ih1, ih2⟩
    · exact .inl (ih.more (by omega) e)
    · exact .inr ⟨ih1, ih2.more (by omega) e⟩
theorem Via.bound {E : Nat → Nat → Prop} {n i k : Nat} (hE : ∀ i k, E i k → i < n) (h : Via E i k) : ViaB E n i k :=
  h.walk (M := fun k => ViaB E n i k) (fun _ e => .one e) (fun _ _ _ ih e => ih.more (hE _ _ e) e)

/-- A table that is filled up number by number, row by row, place by place. -/
structure Fill (E : Nat → Nat → Prop) (n m i k : Nat) (T : Nat → Nat → Bool) : Prop where
  snd : ∀ a b, a < n → b < n → T a b = true → Via E a b
  low : ∀ a b, a < n → b < n → ViaB E m a b → T a b = true
  row : ∀ a b, a < n → b < n → a < i → ViaB E (m + 1) a b → T a b = true
  cel : ∀ b, i < n → b < n → b < k → ViaB E (m + 1) i b → T i b = true
def setT (T : Nat → Nat → Bool) (i k : Nat) (v : Bool) : Nat → Nat → Bool := fun a b => if a = i ∧ b = k then v else T a b
theorem setT_at (T : Nat → Nat → Bool) (i k : Nat) (v : Bool) : setT T i k v i k = v := by unfold setT; rw [if_pos ⟨rfl, rfl⟩]
theorem setT_ne {T : Nat → Nat → Bool} {i k a b : Nat} {v : Bool} (h : ¬ (a = i ∧ b = k)) : setT T i k v a b = T a b := by unfold setT; rw [if_neg h]
theorem setT_grow {T : Nat → Nat → Bool} {i k a b : Nat} {v : Bool} (hv : T i k = true → v = true) (h : T a b = true) : setT T i k v a b = true := by
  by_cases e : a = i ∧ b = k
  · obtain ⟨rfl, rfl⟩ := e
    rw [setT_at]; exact hv h
  · rw [setT_ne e]; exact h
theorem Fill.step {E : Nat → Nat → Prop} {n m i k : Nat} {T : Nat → Nat → Bool} (h : Fill E n m i k T) (hm : m < n) (hi : i < n) (hk : k < n) : Fill E n m i (k + 1) (setT T i k (T i k || (T i m && T m k))) := by
  have hv : T i k = true → (T i k || (T i m && T m k)) = true := fun h => by rw [h]; rfl
  refine ⟨fun a b ha hb hT => ?_, fun a b ha hb hV => setT_grow hv (h.low a b ha hb hV), fun a b ha hb hai hV => setT_grow hv (h.row a b ha hb hai hV), fun b hi' hb hbk hV => ?_⟩
  · by_cases e : a = i ∧ b = k
    · obtain ⟨rfl, rfl⟩ := e
      rw [setT_at, Bool.or_eq_true, Bool.and_eq_true] at hT
      rcases hT with hT | ⟨h1, h2⟩
      · exact h.snd _ _ ha hb hT
      · exact (h.snd _ _ ha hm h1).trans (h.snd _ _ hm hb h2)
    · rw [setT_ne e] at hT
      exact h.snd a b ha hb hT
  · by_cases e : b = k
    · subst e
      rw [setT_at, Bool.or_eq_true, Bool.and_eq_true]
      rcases hV.part with h1 | ⟨h1, h2⟩
      · exact .inl (h.low _ _ hi hb h1)
      · exact .inr ⟨h.low _ _ hi hm h1, h.low _ _ hm hb h2⟩
    · exact setT_grow hv (h.cel b hi' hb (by omega) hV)
theorem Fill.nextRow {E : Nat → Nat → Prop} {n m i : Nat} {T : Nat → Nat → Bool} (h : Fill E n m i n T) : Fill E n m (i + 1) 0 T :=
  ⟨h.snd, h.low, fun a b ha hb hai hV => by
    by_cases e : a = i
    · subst e; exact h.cel b ha hb hb hV
    · exact h.row a b ha hb (by omega) hV, fun b _ _ hb _ => by omega⟩
theorem Fill.nextNum {E : Nat → Nat → Prop} {n m : Nat} {T : Nat → Nat → Bool} (h : Fill E n m n 0 T) : Fill E n (m + 1) 0 0 T :=
  ⟨h.snd, fun a b ha hb hV => h.row a b ha hb ha hV, fun a b _ _ ha _ => by omega, fun b _ _ hb _ => by omega⟩
theorem Fill.start {E : Nat → Nat → Prop} {n : Nat} {T : Nat → Nat → Bool} (h : ∀ a b, a < n → b < n → (T a b = true ↔ E a b)) : Fill E n 0 0 0 T :=
  ⟨fun a b ha hb hT => .one ((h a b ha hb).1 hT), fun a b ha hb hV => (h a b ha hb).2 hV.none, fun a b _ _ ha _ => by omega, fun b _ _ hb _ => by omega⟩
theorem Fill.all {E : Nat → Nat → Prop} {n : Nat} {T : Nat → Nat → Bool} (h : Fill E n n 0 0 T) (hE : ∀ i k, E i k → i < n) {a b : Nat} (ha : a < n) (hb : b < n) : T a b = true ↔ Via E a b :=
  ⟨h.snd a b ha hb, fun hV => h.low a b ha hb (hV.bound hE)⟩

end Go.Proofs.YtlpnfbpgnfappaaGreat

/- Names that rise; modules in an order in which each stands behind all that it asks. -/
namespace Go.Proofs.YtlpnfbpgnfappaaGreat
open Go.RowKit Go.PlainAid

/-- One name stands ahead of another one. -/
def Ahead (a b : ByteArray) : Prop := a.data.toList < b.data.toList
theorem bytes_ext {a b : ByteArray} (h : a.data.toList = b.data.toList) : a = b := ByteArray.ext (Array.toList_inj.1 h)
theorem Ahead.irrefl (a : ByteArray) : ¬ Ahead a a := List.lt_irrefl _
theorem Ahead.trans {a b c : ByteArray} (h : Ahead a b) (g : Ahead b c) : Ahead a c := List.lt_trans h g
theorem Ahead.asymm {a b : ByteArray} (h : Ahead a b) (g : Ahead b a) : False := Ahead.irrefl a (h.trans g)
theorem Ahead.total (a b : ByteArray) : Ahead a b ∨ a = b ∨ Ahead b a := by
  by_cases h1 : a.data.toList < b.data.toList
  · exact .inl h1
  by_cases h2 : b.data.toList < a.data.toList
  · exact .inr (.inr h2)
  · exact .inr (.inl (bytes_ext (List.le_antisymm (List.not_lt.1 h2) (List.not_lt.1 h1))))

def Rising (ss : List ByteArray) : Prop := ss.Pairwise Ahead
theorem Ahead.ne {a b : ByteArray} (h : Ahead a b) : a ≠ b := fun e => Ahead.irrefl a (by rw [← e] at h; exact h)
theorem Rising.nodup {ss : List ByteArray} (h : Rising ss) : ss.Nodup := List.Pairwise.imp Ahead.ne h
theorem Rising.same {a b : List ByteArray} (ha : Rising a) (hb : Rising b) (h : ∀ x, x ∈ a ↔ x ∈ b) : a = b :=
  List.Perm.eq_of_pairwise (le := Ahead) (fun _ _ _ _ h1 h2 => (h1.asymm h2).elim) ha hb ((List.perm_ext_iff_of_nodup ha.nodup hb.nodup).2 h)

theorem full_mem {α : Type} {l₁ l₂ : List α} (d : l₁.Nodup) (s : ∀ x ∈ l₁, x ∈ l₂) (h : l₂.length ≤ l₁.length) : ∀ x ∈ l₂, x ∈ l₁ := by
  intro x hx
  refine Classical.byContradiction fun hn => ?_
  have h1 : (x :: l₁).length ≤ l₂.length := List.Nodup.length_le_of_subset (List.nodup_cons.2 ⟨hn, d⟩) (fun y hy => by
    rcases List.mem_cons.1 hy with rfl | hy
    · exact hx
    · exact s y hy)
  simp at h1
  omega

theorem any_mem {met : List ByteArray} {n : ByteArray} : (met.any fun y => y == n) = true ↔ n ∈ met := by
  rw [List.any_eq_true]
  constructor
  · rintro ⟨x, hx, he⟩
    rw [← (Go.MapKept.bytes_beq x n).1 he]
    exact hx
  · exact fun h => ⟨n, h, (Go.MapKept.bytes_beq n n).2 rfl⟩

/-- Has a module an import from the one of that name? -/
def asksM (m : Mod) (n : ByteArray) : Bool := m.imps.any fun i => i.mod == n
def waitsB (met : List ByteArray) (m : Mod) : Bool := !(met.any fun y => y == m.name)
def mayB (Rs : List Mod) (met : List ByteArray) (m : Mod) : Bool := waitsB met m && !(Rs.any fun o => waitsB met o && asksM m o.name)
def orderFrom (Rs : List Mod) : Nat → List ByteArray → Option (List ByteArray)
  | 0, met => some met
  | n + 1, met => match Rs.find? (mayB Rs met) with | none => none | some m => orderFrom Rs n (met ++ [m.name])

theorem waits_iff {met : List ByteArray} {m : Mod} : waitsB met m = true ↔ m.name ∉ met := by
  unfold waitsB
  rw [Bool.not_eq_true', ← Bool.not_eq_true, List.any_eq_true]
  constructor
  · exact fun h hm => h ⟨_, hm, (Go.MapKept.bytes_beq _ _).2 rfl⟩
  · rintro h ⟨x, hx, he⟩
    rw [(Go.MapKept.bytes_beq _ _).1 he] at hx
    exact h hx
theorem may_iff {Rs : List Mod} {met : List ByteArray} {m : Mod} : mayB Rs met m = true ↔ m.name ∉ met ∧ ∀ o ∈ Rs, asksM m o.name = true → o.name ∈ met := by
  unfold mayB
  rw [Bool.and_eq_true, waits_iff, Bool.not_eq_true', ← Bool.not_eq_true, List.any_eq_true]
  constructor
  · rintro ⟨h1, h2⟩
    refine ⟨h1, fun o ho ha => Classical.byContradiction fun hn => h2 ⟨o, ho, ?_⟩⟩
    rw [Bool.and_eq_true, waits_iff]
    exact ⟨hn, ha⟩
  · rintro ⟨h1, h2⟩
    refine ⟨h1, ?_⟩
    rintro ⟨o, ho, hb⟩
    rw [Bool.and_eq_true, waits_iff] at hb
    exact hb.1 (h2 o ho hb.2)

/-- Each stands behind all that it asks. -/
def Stands (Rs : List Mod) (c : List ByteArray) : Prop := ∀ (i : Nat) (x : ByteArray), c[i]? = some x → ∃ m ∈ Rs, m.name = x ∧ x ∉ c.take i ∧ ∀ o ∈ Rs, asksM m o.name = true → o.name ∈ c.take i
theorem Stands.nil {Rs : List Mod} : Stands Rs [] := fun i x hx => by simp at hx
theorem Stands.at {Rs : List Mod} {c : List ByteArray} (h : Stands Rs c) : ∀ (i : Nat) (x : ByteArray), c[i]? = some x → ∃ m ∈ Rs, m.name = x ∧ x ∉ c.take i ∧ ∀ o ∈ Rs, asksM m o.name = true → o.name ∈ c.take i := h
theorem Stands.snoc {Rs : List Mod} {met : List ByteArray} {m : Mod} (h : Stands Rs met) (hm : m ∈ Rs) (hn : m.name ∉ met) (ha : ∀ o ∈ Rs, asksM m o.name = true → o.name ∈ met) : Stands Rs (met ++ [m.name]) := by
  intro i x hx
  by_cases hi : i < met.length
  · rw [List.getElem?_append_left hi] at hx
    rw [List.take_append_of_le_length (by omega)]
    exact h i x hx
  · have hi2 : i = met.length := by
      have := (List.getElem?_eq_some_iff.1 hx).1
      simp at this
      omega
    subst hi2
    have hx2 : m.name = x := by simpa using hx
    subst hx2
    rw [List.take_left' rfl]
    exact ⟨m, hm, rfl, hn, ha⟩
theorem Stands.nodup {Rs : List Mod} {c : List ByteArray} (h : Stands Rs c) : c.Nodup := by
  refine List.pairwise_iff_getElem.2 fun i j hi hj hij e => ?_
  obtain ⟨_, _, _, hn, _⟩ := h j c[j] (List.getElem?_eq_getElem hj)
  refine hn ?_
  rw [← e]
  exact List.mem_take_iff_getElem.2 ⟨i, by omega, rfl⟩
theorem Stands.names {Rs : List Mod} {c : List ByteArray} (h : Stands Rs c) : ∀ x ∈ c, ∃ m ∈ Rs, m.name = x := by
  intro x hx
  obtain ⟨i, hi⟩ := List.getElem?_of_mem hx
  obtain ⟨m, hm, hmx, _⟩ := h i x hi
  exact ⟨m, hm, hmx⟩
theorem order_stands {Rs : List Mod} : ∀ {n : Nat} {met c : List ByteArray}, Stands Rs met → orderFrom Rs n met = some c → Stands Rs c ∧ c.length = met.length + n ∧ c.take met.length = met
  | 0, met, c, h, he => by
    have : met = c := by simpa [orderFrom] using he
    subst this
    exact ⟨h, rfl, by simp⟩
  | n + 1, met, c, h, he => by
    unfold orderFrom at he
    split at he
    · cases he
    rename_i m hf
    have hm := List.mem_of_find?_eq_some hf
    have hp := may_iff.1 (List.find?_some hf)
    obtain ⟨h1, h2, h3⟩ := order_stands (.snoc h hm hp.1 hp.2) he
    refine ⟨h1, by simp at h2; omega, ?_⟩
    have h4 := congrArg (List.take met.length) h3
    rw [List.take_take, List.take_left' rfl] at h4
    rw [show min met.length (met ++ [m.name]).length = met.length by simp] at h4
    exact h4
theorem order_none {Rs : List Mod} : ∀ {n : Nat} {met : List ByteArray}, Stands Rs met → orderFrom Rs n met = none → ∃ met', Stands Rs met' ∧ met'.length < met.length + n ∧ ∀ m ∈ Rs, mayB Rs met' m = false
  | 0, met, h, he => by simp [orderFrom] at he
  | n + 1, met, h, he => by
    unfold orderFrom at he
    split at he
    · rename_i hf
      exact ⟨met, h, by omega, fun m hm => by simpa using List.find?_eq_none.1 hf m hm⟩
    · rename_i m hf
      have hm := List.mem_of_find?_eq_some hf
      have hp := may_iff.1 (List.find?_some hf)
      obtain ⟨m', h1, h2, h3⟩ := order_none (.snoc h hm hp.1 hp.2) he
      exact ⟨m', h1, by simp at h2; omega, h3⟩

theorem nodup_names {Rs : List Mod} (hd : (Rs.map (·.name)).Nodup) {a b : Mod} (ha : a ∈ Rs) (hb : b ∈ Rs) (h : a.name = b.name) : a = b := by
  obtain ⟨i, hi⟩ := List.getElem?_of_mem ha
  obtain ⟨k, hk⟩ := List.getElem?_of_mem hb
  have h1 : (Rs.map (·.name))[i]? = some a.name := by rw [List.getElem?_map, hi]; rfl
  have h2 : (Rs.map (·.name))[k]? = some a.name := by rw [List.getElem?_map, hk, h]; rfl
  have hil : i < (Rs.map (·.name)).length := (List.getElem?_eq_some_iff.1 h1).1
  have e := (List.getElem?_inj hil hd).1 (h1.trans h2.symm)
  subst e
  rw [hi] at hk
  exact Option.some.inj hk

/-- Those of which each asks one of them: one comes back to itself. -/
theorem comes_back {E : Nat → Nat → Prop} : ∀ (n : Nat) (W : List Nat), W.length ≤ n → W ≠ [] → (∀ i ∈ W, ∃ k ∈ W, E i k) → ∃ i ∈ W, Via E i i
  | 0, W, h1, h2, _ => absurd (List.length_eq_zero_iff.1 (by omega)) h2
  | n + 1, [], _, h2, _ => absurd rfl h2
  | n + 1, i :: W, h1, _, h3 => by
    by_cases hv : Via E i i
    · exact ⟨i, by simp, hv⟩
    · have hm : ∀ k, k ∈ W.filter (fun k => @decide (Via E i k) (Classical.propDecidable _)) ↔ k ∈ W ∧ Via E i k := fun k => by
        rw [List.mem_filter, @decide_eq_true_iff _ (Classical.propDecidable _)]
      obtain ⟨k, hk, he⟩ := h3 i (by simp)
      have hkW : k ∈ W := by
        rcases List.mem_cons.1 hk with rfl | hk
        · exact absurd (.one he) hv
        · exact hk
      obtain ⟨j, hj, hjv⟩ := comes_back n (W.filter (fun k => @decide (Via E i k) (Classical.propDecidable _))) (by
        have := List.length_filter_le (fun k => @decide (Via E i k) (Classical.propDecidable _)) W
        simp at h1
        omega) (List.ne_nil_of_mem ((hm k).2 ⟨hkW, .one he⟩)) (fun a ha => by
        obtain ⟨haW, hav⟩ := (hm a).1 ha
        obtain ⟨b, hb, hab⟩ := h3 a (by simp [haW])
        have hib := hav.more hab
        rcases List.mem_cons.1 hb with rfl | hb
        · exact absurd hib hv
        · exact ⟨b, (hm b).2 ⟨hb, hib⟩, hab⟩)
      exact ⟨j, by simp [((hm j).1 hj).1], hjv⟩

end Go.Proofs.YtlpnfbpgnfappaaGreat

/- Who needs whom, as data. -/
namespace Go.Proofs.YtlpnfbpgnfappaaGreat
open Go.RowKit Go.PlainAid

/-- Have two one name? -/
def twiceFrom : List ByteArray → List Plc → Bool
  | _, [] => false
  | met, p :: l => (met.any fun y => y == p.mod.name) || twiceFrom (met ++ [p.mod.name]) l
def plainErr (L : List Plc) : Int := if 8 < L.length then 2 else chkBy (fun _ => 0) L
def chkGraph (L : List Plc) : Int := if plainErr L ≠ 0 then plainErr L else if twiceFrom [] L = true then 6 else 0
theorem twice_nodup : ∀ (L : List Plc) (met : List ByteArray), met.Nodup → (twiceFrom met L = false ↔ (met ++ L.map (·.mod.name)).Nodup)
  | [], met, h => by simp [twiceFrom, h]
  | p :: l, met, h => by
    have hs : twiceFrom met (p :: l) = ((met.any fun y => y == p.mod.name) || twiceFrom (met ++ [p.mod.name]) l) := rfl
    rw [hs]
    by_cases hm : p.mod.name ∈ met
    · rw [any_mem.2 hm, Bool.true_or]
      constructor
      · intro h; cases h
      · intro hn
        rw [List.nodup_append] at hn
        exact absurd rfl (hn.2.2 _ hm _ (by simp))
    · have h0 : (met.any fun y => y == p.mod.name) = false := by
        cases he : met.any fun y => y == p.mod.name
        · rfl
        · exact absurd (any_mem.1 he) hm
      rw [h0, Bool.false_or, twice_nodup l (met ++ [p.mod.name]) (by
        rw [List.nodup_append]
        exact ⟨h, by simp, fun a ha b hb => by rw [List.mem_singleton.1 hb]; exact fun e => hm (e ▸ ha)⟩)]
      simp
theorem chkGraph_zero {L : List Plc} : chkGraph L = 0 ↔ L.length ≤ 8 ∧ (∀ p ∈ L, chkMod p.mod = 0) ∧ (L.map (·.mod.name)).Nodup := by
  have ht := twice_nodup L [] (by simp)
  rw [List.nil_append] at ht
  unfold chkGraph
  constructor
  · intro h
    split at h
    · exact absurd h ‹_›
    rename_i h1
    have h1 : plainErr L = 0 := by omega
    unfold plainErr at h1
    split at h1
    · omega
    rename_i h8
    split at h
    · omega
    rename_i h2
    exact ⟨by omega, fun p hp => (chkBy_zero.1 h1 p hp).1, ht.1 (by simpa using h2)⟩
  · rintro ⟨h1, h2, h3⟩
    have h4 : plainErr L = 0 := by
      unfold plainErr
      rw [if_neg (by omega)]
      exact chkBy_zero.2 fun p hp => ⟨h2 p hp, rfl⟩
    rw [h4, ht.2 h3]
    simp

end Go.Proofs.YtlpnfbpgnfappaaGreat
