/- Texts that are laid together. -/
import Derived.Test.YtlpnfbpgnfappaaGreatMrgI
import Derived.Deep.LoopGhost
import Derived.Test.YtlpnfbpgnfappaaGreatMrgJ
import Derived.Test.YtlpnfbpgnfappaaGreatMrgC
import Derived.Test.YtlpnfbpgnfappaaGreatMrgK
import Derived.Test.YtlpnfbpgnfappaaGreatMrgL
import Derived.Test.YtlpnfbpgnfappaaGreatMrgD
import Derived.Test.YtlpnfbpgnfappaaGreatMrgF

/- The contract of graph.comeTo. -/
namespace Go.Proofs.YtlpnfbpgnfappaaGreat
open Go.RowKit Go.PlainAid Go.Maps Go.WideMaps

set_option maxRecDepth 100000

set_option maxHeartbeats 8000000 in
theorem comeTo_any (nx : Mod → Mod → Bool) (K : FuncId) (hK : ∀ w x y, Sem.run Tryz.prog (callFunc K #[x, y]) w = .ok (.enter K #[x, y]) w) (l : List PV) (v : Value) (name : ByteArray) (w : World) (hrow : IsPlcs w.heap.size w v l) (hfit : ∀ x ∈ l, x.mod.fits)
    (hp : ∀ x ∈ l, ∀ y ∈ l, ∀ W, Below w.heap.size w W → Calls Tryz.prog K #[x.modV, y.modV] W fun e W' => e = .returned (.bool (nx x.mod y.mod)) ∧ Below W.heap.size W W') :
    Calls Tryz.prog 97 #[v, .string name, .func (.func K) #[] #[]] w fun e w' => (∃ r ss, e = .returned (.tuple #[r, .int .i64 (comeErr (l.map PV.plc) name)]) ∧ RowOf 1 strCell w'.heap.size w' r ss ∧ ComeRes nx (l.map PV.plc) name ss) ∧ Below w.heap.size w w' := by
  have HW : Hid (∀ W, Below w.heap.size w W → Calls Tryz.prog 88 #[v] W fun e w' => e = .returned (.int .i64 (chkGraph (l.map PV.plc))) ∧ Below W.heap.size W w') := fun W hb => graphWrong_any l v W ((hrow.below hb).more hb.size) hfit
  have HI : Hid (∀ W B, Below w.heap.size w W → B < W.heap.size → W.cell? ⟨B, 0, none⟩ = some (.string name) → Calls Tryz.prog 79 #[v, .func (.func 153) #[] #[.pointer (some ⟨B, 0, none⟩)]] W fun e w' => e = .returned (.int .i64 (ixFrom (fun x : PV => x.mod.name == name) 0 l)) ∧ Below W.heap.size W w') := by
    intro W B hb hlt hB
    exact ixPlc_any l v 153 (.pointer (some ⟨B, 0, none⟩)) (fun w x => enters_of Tryz.func153 (by kernel_rfl) rfl _ w) _ W ((hrow.1.below hb).more hb.size) (fun x hx W' hb' => come1_any B name x W' (Nat.lt_of_lt_of_le hlt hb'.size) ((hb'.cell (p := ⟨B, 0, none⟩) hlt).trans hB) ((((((hrow.2 x hx).below hb).more hb.size)).below hb').more hb'.size))
  have HN : Hid (∀ (i k : Nat) (x y : PV), l[i]? = some x → l[k]? = some y → ∀ W, Below w.heap.size w W → Calls Tryz.prog K #[x.modV, y.modV] W fun e W' => e = .returned (.bool (nx x.mod y.mod)) ∧ Below W.heap.size W W') := fun i k x y hx hy => hp x (List.mem_of_getElem? hx) y (List.mem_of_getElem? hy)
  have HT : Hid (chkGraph (l.map PV.plc) = 0 → l.length ≤ 8 ∧ Told nx l (Next nx (l.map (·.mod))) (nameAt (l.map (·.mod)))) := by
    intro h0
    have h1 := chkGraph_zero.1 h0
    refine ⟨by simpa using h1.1, told_of nx l ?_⟩
    have := h1.2.2
    rw [List.map_map] at this
    exact this
  have HCO : Hid (∀ f ss, Comes nx (l.map (·.mod)) f ss ↔ Rising ss ∧ ∀ x, x ∈ ss ↔ ∃ k, Via (Next nx (l.map (·.mod))) f k ∧ nameAt (l.map (·.mod)) k = x) := fun f ss => Iff.rfl
  have hat := hrow.2
  have key := come_cases nx l name
  obtain ⟨⟨a, cap, rfl, hmax, hrow⟩, _⟩ := hrow
  generalize comeErr (l.map PV.plc) name = R at *
  generalize ComeRes nx (l.map PV.plc) name = CR at *
  generalize chkGraph (l.map PV.plc) = cg at *
  generalize ixFrom (fun x : PV => x.mod.name == name) 0 l = ix at *
  generalize Comes nx (l.map (·.mod)) = CM at *
  generalize Next nx (l.map (·.mod)) = E at *
  generalize nameAt (l.map (·.mod)) = nA at *
  clear hp
  have hmm := @run_makeMap Tryz.prog
  go_enter Tryz.func97, Tryz.ntmps97
  go_wp2_with fail
  have HB1 : Below w.heap.size w (w.alloc (.cells #[.string name] 9)) := (Below.refl _ _).alloc (Nat.le_refl _) _
  refine (HW.out _ HB1).mono ?_
  rintro e w2 ⟨rfl, b2⟩
  have HBOX : Hid (w.heap.size < w2.heap.size ∧ w2.cell? ⟨w.heap.size, 0, none⟩ = some (.string name)) := by
    refine ⟨Nat.lt_of_lt_of_le (by simp) b2.size, ?_⟩
    exact (b2.cell (p := ⟨w.heap.size, 0, none⟩) (by simp)).trans ((CellsAt.new w 9 #[.string name]).cell 0)
  have B2 := HB1.trans (b2.mono HB1.size)
  clear HB1 b2 HW
  rcases key with ⟨h0, rfl, hC⟩ | ⟨rfl, rfl, rfl, hC⟩ | ⟨rfl, f, hf, rfl, rfl, hC⟩
  · have h0' : (R != 0) = true := by simpa using h0
    have HC : Hid (CR []) := hC
    clear hrow hat h0 hC HN HT HCO
    go_wp2
    go_ret2
    exact ⟨⟨_, [], rfl, ⟨none, 0, rfl, by simp, .inl rfl⟩, HC.out⟩, B2⟩
  · have HC : Hid (CR []) := hC
    clear hrow hat hC HN HT HCO
    go_wp2_with fail
    refine (HI.out w2 w.heap.size B2 HBOX.out.1 HBOX.out.2).mono ?_
    rintro e w3 ⟨rfl, b3⟩
    have B3 := B2.trans (b3.mono B2.size)
    clear HI HBOX b3
    go_wp2
    go_ret2
    exact ⟨⟨_, [], rfl, ⟨none, 0, rfl, by simp, .inl rfl⟩, HC.out⟩, B3⟩
  · have HC : Hid (∀ ss, CM f ss → CR ss) := hC
    obtain ⟨h8, hT⟩ := HT.out (by first | rfl | trivial)
    have HTT : Hid (Told nx l E nA) := hT
    clear hC HT hT
    go_wp2_with fail
    refine (HI.out w2 w.heap.size B2 HBOX.out.1 HBOX.out.2).mono ?_
    rintro e w3 ⟨rfl, b3⟩
    have B3 := B2.trans (b3.mono B2.size)
    clear HI HBOX b3 B2
    go_wp2_with fail
    go_loopg [11] (2 * l.length + 1) (fun n q wr => ∃ (met work : List Nat) (D : DataW Unit), Hid ((n = 2 * (l.length - met.length) + work.length ∧ n ≤ 2 * l.length + 1) ∧ Come E l.length f met work ∧ HasNames D (met.map nA)) ∧ wr.ownsMap Tryz.prog 9 (plainElem Tryz.prog 3) w3.heap.size met.length D ∧ QRow wr (w3.heap.size + 1) q work ∧ Below w3.heap.size w3 wr)
    case atStart =>
      refine ⟨[], [f], .map [], ⟨by simp, Come.start E _ f, HasNames.none⟩, (World.ownsMap_made w3 Tryz.prog 9 _).kept (World.grownBy_alloc _ _ none) (by simp), ?_, ((Below.refl _ _).alloc (Nat.le_refl _) _).alloc (by simp) _⟩
      have := CellsAt.new (w3.alloc (.map #[] 0)) 3 #[.int .i64 (f : Int)]
      rw [World.size_alloc] at this
      refine ⟨w3.heap.size + 1, 0, 1, _, by simp, Nat.le_refl _, this, by simp, by simp, by omega, ?_⟩
      intro j x hj
      cases j with
      | zero => simp at hj; subst hj; rfl
      | succ j => simp at hj
    case round =>
      obtain ⟨met, work, D, HX, hown, hq, B⟩ := hrel
      have BW : Below w.heap.size w wr := B3.trans (B.mono B3.size)
      obtain ⟨g, o, cp, rfl, hle, hcp, hg⟩ := hq.form
      cases work with
      | nil =>
        simp only [List.length_nil] at hq hle
        have hmet : met.length ≤ 8 := by have := HX.out.2.1.le; omega
        simp only [List.length_nil]
        clear hrow hat
        go_wp2_with fail
        refine (keysOf_any (some w3.heap.size) wr).mono ?_
        rintro e w4 ⟨rfl, rfl⟩
        go_wp2_with fail
        refine (sortedKeys_any w3.heap.size met.length D _ wr hown (by have := hown.size_le; unfold maxLen; omega) (by have := hown.size_le; omega)).mono ?_
        rintro e w5 ⟨v5, ss, rfl, hperm, hrow5, _, b5⟩
        obtain ⟨rs, hR1, hR2, hR3⟩ := sorted_names hown HX.out.2.2 (HTT.out.nodup met HX.out.2.1.lt HX.out.2.1.nodup) (by rw [List.length_map]; omega) hperm hrow5
        have HCR : Hid (CR rs) := HC.out rs ((HCO.out f rs).2 ⟨hR2, fun x => by
          rw [hR3, List.mem_map]
          constructor
          · rintro ⟨k, hk, rfl⟩; exact ⟨k, (HX.out.2.1.all k).1 hk, rfl⟩
          · rintro ⟨k, hk, rfl⟩; exact ⟨k, (HX.out.2.1.all k).2 hk, rfl⟩⟩)
        have BZ : Below w.heap.size w w5 := (BW.alloc BW.size _).trans (b5.mono (BW.alloc BW.size _).size)
        have HR1 : Hid (RowOf 1 strCell w5.heap.size w5 v5 rs) := hR1
        clear hperm hrow5 hR1 hR2 hR3 b5 BW
        go_wp2
        go_ret2
        exact ⟨⟨_, rs, rfl, HR1.out, HCR.out⟩, BZ⟩
      | cons j rest =>
        have hj : j < l.length := by
          rcases HX.out.2.1.wk j (by simp) with h | h
          · omega
          · exact HX.out.2.1.lt j h
        obtain ⟨x, hx⟩ : ∃ x, l[j]? = some x := ⟨_, List.getElem?_eq_getElem hj⟩
        rcases hrow with h | ⟨b, off, rfl, hbn, hcells⟩
        · subst h; simp at hj
        have HCL : Hid (∀ (W : World), Below w.heap.size w W → ∀ (j : Nat) (x : PV), l[j]? = some x → ∀ i, i < 8 → W.cell? ⟨b, off + j * 8 + i, none⟩ = some (PV.cell x i)) := fun W hb j x hx i hi => (hb.cell (p := ⟨b, off + j * 8 + i, none⟩) hbn).trans (hcells j x hx i hi)
        clear hcells
        obtain ⟨hc0, o2, ho2, hq2⟩ := hq.pop
        have HN2 : Hid (∀ (k : Nat) (y : PV), l[k]? = some y → ∀ W, Below w.heap.size w W → Calls Tryz.prog K #[x.modV, y.modV] W fun e W' => e = .returned (.bool (nx x.mod y.mod)) ∧ Below W.heap.size W W') := fun k y hy => HN.out j k x y hx hy
        have HE2 : Hid (∀ (k : Nat) (y : PV), l[k]? = some y → (E j k ↔ nx x.mod y.mod = true)) := fun k y hy => HTT.out.edge j k x y hx hy
        have HX2 : Hid ((2 * (l.length - met.length) + rest.length < gk ∧ gk ≤ 2 * l.length + 1) ∧ ComeIn E l.length f j 0 met rest ∧ HasNames D (met.map nA)) := by
          have h1 := HX.out.1
          simp at h1
          exact ⟨⟨by omega, h1.2⟩, HX.out.2.1.pop, HX.out.2.2⟩
        obtain ⟨⟨pe, ke, e4, _⟩, ⟨pi, ki, e5, _⟩, ⟨pp, kp, e6, _⟩⟩ := hat x (List.mem_of_getElem? hx)
        have c0 := HCL.out wr BW j x hx 0 (by omega)
        have c1 := HCL.out wr BW j x hx 1 (by omega)
        have c2 := HCL.out wr BW j x hx 2 (by omega)
        have c3 := HCL.out wr BW j x hx 3 (by omega)
        have c4 := HCL.out wr BW j x hx 4 (by omega)
        have c5 := HCL.out wr BW j x hx 5 (by omega)
        have c6 := HCL.out wr BW j x hx 6 (by omega)
        clear hx HN HX
        obtain ⟨⟨N, ma, mi, T, es, is, ps⟩, ve, vi, vp, fi⟩ := x
        dsimp only at e4 e5 e6
        subst e4 e5 e6
        dsimp only [PV.cell] at c0 c1 c2 c3 c4 c5 c6
        dsimp only [PV.modV] at HN2
        rw [Nat.add_zero] at c0
        generalize es.length = le at *
        generalize is.length = li at *
        generalize ps.length = lp at *
        simp only [List.length_cons] at hle hq
        simp only [List.length_cons]
        clear hq
        go_wp2_with fail
        have HA0 : Hid (Below w3.heap.size w3 wr) := B
        go_loopw [11, 44] (fun q i wi => ∃ (k : Nat) (met2 work2 : List Nat) (D2 : DataW Unit), k ≤ l.length ∧ i = .int .i64 k ∧ Hid ((2 * (l.length - met2.length) + work2.length < gk ∧ gk ≤ 2 * l.length + 1) ∧ ComeIn E l.length f j k met2 work2 ∧ HasNames D2 (met2.map nA)) ∧ wi.ownsMap Tryz.prog 9 (plainElem Tryz.prog 3) w3.heap.size met2.length D2 ∧ QRow wi (w3.heap.size + 1) q work2 ∧ Hid (∀ g', q.ownBlock = some g' → g' ≠ wr.heap.size) ∧ CellsAt wi wr.heap.size 31 #[.string N, .int .i64 ma, .int .i64 mi, .string T, .slice pe le ke, .slice pi li ki, .slice pp lp kp] ∧ Below w3.heap.size w3 wi ∧ Hid (w3.heap.size < wr.heap.size)) (fun _ i _ => l.length - (intOf i).toNat)
        case atStart =>
          refine ⟨0, met, rest, D, Nat.zero_le _, rfl, HX2.out, hown.kept (World.grownBy_alloc _ _ none) (by simp), hq2.kept (World.grownBy_alloc _ _ none) (by simp), ?_, CellsAt.new _ _ _, B.alloc B.size _, ?_⟩
          · intro g' hg'
            have : g = g' := by simpa [Value.ownBlock] using hg'
            omega
          · exact hown.lt
        case round =>
          obtain ⟨k, met2, work2, D2, hk, rfl, HY, hown2, hqq, HNE, hCC, BI, HL⟩ := hrel
          have BIW : Below w.heap.size w wr := B3.trans (BI.mono B3.size)
          obtain ⟨g2, o3, cp2, rfl, hle2, hcp2, hg2⟩ := hqq.form
          clear hle hc0 c0 c1 c2 c3 c4 c5 c6 hq2 HX2 hown ho2 hg BW HA0
          by_cases hlt : k < l.length
          · obtain ⟨y, hy⟩ : ∃ y, l[k]? = some y := ⟨_, List.getElem?_eq_getElem hlt⟩
            have hn : y.mod.name.size ≤ 9223372036854775807 := (hfit y (List.mem_of_getElem? hy)).1
            have hkey : keyOf Tryz.prog 9 (.string y.mod.name) = some (.string y.mod.name.data.toList) := keyOf_string_mk Tryz.underlying9 hn
            have hhas := HY.out.2.2 y.mod.name
            have HIN : Hid (((met2.map nA).any fun z => z == y.mod.name) = true ↔ k ∈ met2) := by
              have := HTT.out.met met2 HY.out.2.1.lt k hlt
              rw [HTT.out.name k y hy] at this
              exact this
            have HPUT : Hid (∀ d, HasNames (D2.put (.string y.mod.name.data.toList) d) ((met2 ++ [k]).map nA)) := fun d => by
              rw [List.map_append, List.map_cons, List.map_nil, HTT.out.name k y hy]
              exact HY.out.2.2.put hown2.isMap y.mod.name d
            have HNC : Hid (∀ W, Below w.heap.size w W → Calls Tryz.prog K #[.agg #[.string N, .int .i64 ma, .int .i64 mi, .string T, .slice pe le ke, .slice pi li ki, .slice pp lp kp], y.modV] W fun e W' => e = .returned (.bool (nx ⟨N, ma, mi, T, es, is, ps⟩ y.mod)) ∧ Below W.heap.size W W') := HN2.out k y hy
            have HED : Hid (E j k ↔ nx ⟨N, ma, mi, T, es, is, ps⟩ y.mod = true) := HE2.out k y hy
            obtain ⟨⟨ye, je, e4, _⟩, ⟨yi, ji, e5, _⟩, ⟨yp, jp, e6, _⟩⟩ := hat y (List.mem_of_getElem? hy)
            have c0 := HCL.out wr BIW k y hy 0 (by omega)
            have c1 := HCL.out wr BIW k y hy 1 (by omega)
            have c2 := HCL.out wr BIW k y hy 2 (by omega)
            have c3 := HCL.out wr BIW k y hy 3 (by omega)
            have c4 := HCL.out wr BIW k y hy 4 (by omega)
            have c5 := HCL.out wr BIW k y hy 5 (by omega)
            have c6 := HCL.out wr BIW k y hy 6 (by omega)
            have c7 := HCL.out wr BIW k y hy 7 (by omega)
            have hC2 := hCC.kept (World.grownBy_alloc wr (.cells #[.string y.mod.name, .int .i64 y.mod.major, .int .i64 y.mod.minor, .string y.mod.text, y.ve, y.vi, y.vp, .int .i64 y.first] 57) none) (by simp)
            have m0 := hC2.cell 0
            have m1 := hC2.cell 1
            have m2 := hC2.cell 2
            have m3 := hC2.cell 3
            have m4 := hC2.cell 4
            have m5 := hC2.cell 5
            have m6 := hC2.cell 6
            simp at m0 m1 m2 m3 m4 m5 m6
            clear hy
            generalize nx ⟨N, ma, mi, T, es, is, ps⟩ y.mod = t at HNC HED
            obtain ⟨⟨N', ma', mi', T', es', is', ps'⟩, ve, vi, vp, fi'⟩ := y
            dsimp only at e4 e5 e6 hn hkey hhas HIN HPUT hC2 m0 m1 m2 m3 m4 m5 m6
            subst e4 e5 e6
            dsimp only [PV.cell] at c0 c1 c2 c3 c4 c5 c6 c7
            dsimp only [PV.modV] at HNC
            rw [Nat.add_zero] at c0
            generalize es'.length = le' at *
            generalize is'.length = li' at *
            generalize ps'.length = lp' at *
            generalize (met2.map nA).any (fun z => z == N') = TT at HIN hhas
            cases TT
            · go_wp2_with (first
                | (at_lookup; refine wpList_lookup_own_ok_int _ rfl _ _ 171 rfl 9 3 .i64 lawS Tryz.underlying171 Tryz.underlying3 (zeroI _) w3.heap.size met2.length D2 rfl (hown2.kept (World.grownBy_alloc _ _ none) (by simp)) _ _ rfl hkey ?_; intro c hat' hwc; clear hat' hwc))
              refine Calls.mono (HNC.out _ (BIW.alloc BIW.size _)) ?_
              rintro e wc ⟨rfl, bc⟩
              have hownc := map_below (hown2.kept (World.grownBy_alloc wr (.cells #[.string N', .int .i64 ma', .int .i64 mi', .string T', .slice ye le' je, .slice yi li' ji, .slice yp lp' jp, .int .i64 fi'] 57) none) (by simp)) bc (by have := hown2.lt; simp; omega)
              have hqc := (hqq.kept (World.grownBy_alloc wr (.cells #[.string N', .int .i64 ma', .int .i64 mi', .string T', .slice ye le' je, .slice yi li' ji, .slice yp lp' jp, .int .i64 fi'] 57) none) (by simp)).below bc (Nat.le_refl _)
              have hCc := hC2.below bc hC2.lt
              have cN : wc.cell? ⟨wr.heap.size, 0, none⟩ = some (.string N') := (bc.cell (p := ⟨wr.heap.size, 0, none⟩) (by simp)).trans ((CellsAt.new wr 57 #[.string N', .int .i64 ma', .int .i64 mi', .string T', .slice ye le' je, .slice yi li' ji, .slice yp lp' jp, .int .i64 fi']).cell 0)
              have BC : Below w3.heap.size w3 wc := (BI.alloc BI.size _).trans (bc.mono (BI.alloc BI.size _).size)
              have HSZ : Hid (wr.heap.size < wc.heap.size) := Nat.lt_of_lt_of_le (by simp) bc.size
              clear c0 c1 c2 c3 c4 c5 c6 c7 m0 m1 m2 m3 m4 m5 m6 hC2 bc HNC hat BIW
              cases t
              · go_wp2
                exact ⟨⟨k + 1, met2, work2, D2, by omega, by go_num, ⟨HY.out.1, HY.out.2.1.skip (.inr (fun he => by simpa using HED.out.1 he)), HY.out.2.2⟩, hownc, hqc, HNE.out, hCc, BC, HL.out⟩, by simp [intOf]; omega⟩
              · have hm2 : met2.length ≤ 8 := by have := HY.out.2.1.le; omega
                have hw2 : work2.length ≤ 17 := by have := HY.out.1; omega
                have HNEM : Hid (∀ g', Value.ownBlock (.slice (some ⟨g2, o3, none⟩) work2.length cp2) = some g' → some g' ≠ some w3.heap.size) := fun g' h1 h2 => by
                  have := (hqq.base g' h1).1
                  injection h2 with h2
                  omega
                have HADD : Hid (ComeIn E l.length f j (k + 1) (met2 ++ [k]) (work2 ++ [k]) ∧ 2 * (l.length - (met2 ++ [k]).length) + (work2 ++ [k]).length < gk) := by
                  have hnot : k ∉ met2 := fun h => by simpa using HIN.out.2 h
                  have hc := HY.out.2.1.add hnot hlt (HED.out.2 rfl)
                  refine ⟨hc, ?_⟩
                  have h1 := HY.out.1
                  have h2 := hc.le
                  simp at h2 ⊢
                  omega
                go_wp2_with (first
                  | (at_mapUpdate; refine wpList_mapUpdate_own _ rfl _ _ _ 171 rfl 9 3 lawS Tryz.underlying171 _ w3.heap.size met2.length _ rfl hownc (by unfold maxLen; omega) _ _ _ rfl rfl hkey _ [] (plainElem_int Tryz.underlying3 (WalkArith.wf_i64 (by omega))) ?_; intro w1 hown1 hgrow1)
                  | (at_builtin; refine wpList_queue _ rfl _ _ rfl (w3.heap.size + 1) (.slice (some ⟨g2, o3, none⟩) work2.length cp2) work2 rfl ((hqc.kept hgrow1 HNEM.out).kept (World.grownBy_alloc _ _ none) (by simp)) w1.heap.size k rfl ((CellsAt.new w1 3 #[.int .i64 (k : Int)]).cell 0) (by omega) (by have := hown1.lt; simp; omega) ?_; intro v' wq hq' hgq hv'))
                have BG := BC.grown hgrow1 BC.size (fun i hi => by cases hi; exact Nat.le_refl _)
                have BH := BG.alloc BG.size (.cells #[.int .i64 (k : Int)] 3)
                have OW := (hown1.kept (World.grownBy_alloc _ _ none) (by simp)).kept hgq (fun e => HNEM.out _ e.symm rfl)
                rw [show met2.length + 1 = (met2 ++ [k]).length by simp] at OW
                refine ⟨⟨k + 1, met2 ++ [k], work2 ++ [k], _, by omega, by go_num, ⟨⟨HADD.out.2, HY.out.1.2⟩, HADD.out.1, HPUT.out _⟩, OW, hq', ?_, ?_, BH.grown hgq BH.size (fun i hi => by have := (hqq.base i hi).1; omega), HL.out⟩, by simp [intOf]; omega⟩
                · intro g' hg'
                  rcases hv' g' hg' with h1 | h1
                  · exact HNE.out g' h1
                  · have h2 := hCc.lt
                    have h3 := hgrow1.size
                    simp at h1
                    omega
                · refine ((hCc.kept hgrow1 (fun e => ?_)).kept (World.grownBy_alloc _ _ none) (by simp)).kept hgq (fun e => HNE.out _ e.symm rfl)
                  injection e with e
                  have := HL.out
                  omega
            · go_wp2_with (first
                | (at_lookup; refine wpList_lookup_own_ok_int _ rfl _ _ 171 rfl 9 3 .i64 lawS Tryz.underlying171 Tryz.underlying3 (zeroI _) w3.heap.size met2.length D2 rfl (hown2.kept (World.grownBy_alloc _ _ none) (by simp)) _ _ rfl hkey ?_; intro c hat' hwc; clear hat' hwc))
              exact ⟨⟨k + 1, met2, work2, D2, by omega, by go_num, ⟨HY.out.1, HY.out.2.1.skip (.inl (HIN.out.1 rfl)), HY.out.2.2⟩, hown2.kept (World.grownBy_alloc _ _ none) (by simp), hqq.kept (World.grownBy_alloc _ _ none) (by simp), HNE.out, hC2, BI.alloc BI.size _, HL.out⟩, by simp [intOf]; omega⟩
          · obtain rfl : k = l.length := by omega
            go_wp2_with fail
            go_roundg (2 * (l.length - met2.length) + work2.length)
            case measure => exact HY.out.1.1
            case rel => exact ⟨met2, work2, D2, ⟨⟨rfl, by have := HY.out.1; omega⟩, HY.out.2.1.fin (fun k hk => HTT.out.lt _ _ hk), HY.out.2.2⟩, hown2, hqq, BI⟩

end Go.Proofs.YtlpnfbpgnfappaaGreat

/- The contracts of graph.Needs and graph.Users. -/
namespace Go.Proofs.YtlpnfbpgnfappaaGreat
open Go.RowKit Go.PlainAid

set_option maxRecDepth 100000

set_option maxHeartbeats 2000000 in
theorem users1_any (x y : PV) (w : World) (hx : PlcAt w.heap.size w x) (hy : PlcAt w.heap.size w y) :
    Calls Tryz.prog 98 #[x.modV, y.modV] w fun e w' => e = .returned (.bool (nxUse x.mod y.mod)) ∧ Below w.heap.size w w' := by
  have HA : Hid (∀ W, Below w.heap.size w W → Calls Tryz.prog 99 #[y.modV, .string x.mod.name] W fun e w' => e = .returned (.bool (nxUse x.mod y.mod)) ∧ Below W.heap.size W w') := fun W hb => asks_any y.mod y.modV x.mod.name W (((hy.below hb).more hb.size).isMod)
  obtain ⟨⟨pe, ke, e4, _⟩, ⟨pi, ki, e5, _⟩, ⟨pp, kp, e6, _⟩⟩ := hx
  obtain ⟨⟨ye, je, f4, _⟩, ⟨yi, ji, f5, _⟩, ⟨yp, jp, f6, _⟩⟩ := hy
  generalize nxUse x.mod y.mod = t at *
  obtain ⟨⟨N, ma, mi, T, es, is, ps⟩, ve, vi, vp, fi⟩ := x
  obtain ⟨⟨N', ma', mi', T', es', is', ps'⟩, ve', vi', vp', fi'⟩ := y
  dsimp only at e4 e5 e6 f4 f5 f6
  subst e4 e5 e6 f4 f5 f6
  dsimp only [PV.modV] at *
  generalize es.length = le at *
  generalize is.length = li at *
  generalize ps.length = lp at *
  generalize es'.length = le' at *
  generalize is'.length = li' at *
  generalize ps'.length = lp' at *
  have HB : Hid (Below w.heap.size w ((w.alloc (.cells #[.string N, .int .i64 ma, .int .i64 mi, .string T, .slice pe le ke, .slice pi li ki, .slice pp lp kp] 31)).alloc (.cells #[.string N', .int .i64 ma', .int .i64 mi', .string T', .slice ye le' je, .slice yi li' ji, .slice yp lp' jp] 31))) := ((Below.refl _ _).alloc (Nat.le_refl _) _).alloc (by simp) _
  go_enter Tryz.func98, Tryz.ntmps98
  go_wp2_with fail
  refine (HA.out _ HB.out).mono ?_
  rintro e w2 ⟨rfl, b2⟩
  have B2 := HB.out.trans (b2.mono HB.out.size)
  clear HA HB b2
  go_wp2
  go_ret
  exact ⟨rfl, B2⟩

set_option maxHeartbeats 1000000 in
theorem users_any (l : List PV) (v : Value) (name : ByteArray) (w : World) (hrow : IsPlcs w.heap.size w v l) (hfit : ∀ x ∈ l, x.mod.fits) :
    Calls Tryz.prog 42 #[v, .string name] w fun e w' => (∃ r ss, e = .returned (.tuple #[r, .int .i64 (comeErr (l.map PV.plc) name)]) ∧ RowOf 1 strCell w'.heap.size w' r ss ∧ ComeRes nxUse (l.map PV.plc) name ss) ∧ Below w.heap.size w w' := by
  have HC := comeTo_any nxUse 98 (fun w x y => enters_of Tryz.func98 (by kernel_rfl) rfl _ w) l v name w hrow hfit (fun x hx y hy W hb => users1_any x y W (((hrow.2 x hx).below hb).more hb.size) (((hrow.2 y hy).below hb).more hb.size))
  obtain ⟨⟨a, cap, rfl, _, _⟩, _⟩ := hrow
  generalize comeErr (l.map PV.plc) name = R at *
  generalize ComeRes nxUse (l.map PV.plc) name = CR at *
  generalize l.length = ll at *
  go_enter Tryz.func42, Tryz.ntmps42
  go_wp2_with fail
  refine HC.mono ?_
  rintro e w2 ⟨⟨r, ss, rfl, hr, hs⟩, b2⟩
  have HR : Hid (RowOf 1 strCell w2.heap.size w2 r ss ∧ CR ss) := ⟨hr, hs⟩
  clear HC hr hs
  go_wp2
  go_ret2
  exact ⟨⟨r, ss, rfl, HR.out.1, HR.out.2⟩, b2⟩

end Go.Proofs.YtlpnfbpgnfappaaGreat

/- What must be in any case, of graphs; rows of texts. -/
namespace Go.Proofs.YtlpnfbpgnfappaaGreat
open Go.RowKit Go.PlainAid

set_option maxRecDepth 100000

def appN : ByteArray := ⟨#[97, 112, 112]⟩
def libN : ByteArray := ⟨#[108, 105, 98]⟩
theorem chk_pairG : chkGraph pairL = 0 := by kernel_rfl
theorem ord_pair : ordOf pairL = ([libN, appN], 0) := by
  unfold ordOf
  rw [if_neg (by rw [chk_pairG]; exact fun h => h rfl)]
  have hr : risen pairL = [appM, libM] := by
    unfold risen
    refine List.mergeSort_of_pairwise ?_
    show List.Pairwise _ [appM, libM]
    rw [List.pairwise_cons]
    refine ⟨fun x hx => ?_, by simp⟩
    obtain rfl : x = libM := by simpa using hx
    show decide (appM.name.data.toList ≤ libM.name.data.toList) = true
    decide
  rw [hr]
  exact ordRes_some (by kernel_rfl)

end Go.Proofs.YtlpnfbpgnfappaaGreat

/- What must be in any case, of images. -/
namespace Go.Proofs.YtlpnfbpgnfappaaGreat
open Go.RowKit Go.PlainAid

set_option maxRecDepth 100000

theorem lnB_a2 : (areaOf kernK pairL).2 = 0 := by kernel_rfl

end Go.Proofs.YtlpnfbpgnfappaaGreat

/- What must be in any case, of registries. -/
namespace Go.Proofs.YtlpnfbpgnfappaaGreat
open Go.RowKit Go.PlainAid Go.Lib

set_option maxRecDepth 100000

theorem sets4 {W : World} {B : Nat} {t : TypeId} {a0 a1 a2 a3 : Value} (h : CellsAt W B t #[a0, a1, a2, a3]) (v0 v1 v2 v3 : Value) :
    CellsAt ((((W.setCell ⟨B, 0, none⟩ v0).setCell ⟨B, 1, none⟩ v1).setCell ⟨B, 2, none⟩ v2).setCell ⟨B, 3, none⟩ v3) B t #[v0, v1, v2, v3] := by
  have h3 := CellsAt.set 3 v3 (CellsAt.set 2 v2 (CellsAt.set 1 v1 (CellsAt.set 0 v0 h)))
  simp only [List.setIfInBounds_toArray, List.set_cons_zero, List.set_cons_succ] at h3
  exact h3
theorem sets4_grown (W : World) (B : Nat) (v0 v1 v2 v3 : Value) :
    W.grownBy ((((W.setCell ⟨B, 0, none⟩ v0).setCell ⟨B, 1, none⟩ v1).setCell ⟨B, 2, none⟩ v2).setCell ⟨B, 3, none⟩ v3) (some B) :=
  ((((grown_set W B 0 v0).trans (grown_set _ B 1 v1)).trans (grown_set _ B 2 v2)).trans (grown_set _ B 3 v3))

/-- A row that a block's cells can't be stays as it is when that block is turned. -/
theorem RowOf.apart {α : Type} {sz : Nat} {cells : α → Nat → Value} {n : Nat} {W W' : World} {v : Value} {l : List α} (h : RowOf sz cells n W v l) {B : Nat} (hg : W.grownBy W' (some B)) (hn : n ≤ W.heap.size)
    (hne : ∀ off x, x ∈ l → ¬ (∀ i, i < sz → W.cell? ⟨B, off + i, none⟩ = some (cells x i))) : RowOf sz cells n W' v l := by
  obtain ⟨a, cap, e, hl, h | ⟨b, off, e2, hlt, hc⟩⟩ := h
  · exact ⟨a, cap, e, hl, .inl h⟩
  · refine ⟨a, cap, e, hl, ?_⟩
    cases l with
    | nil => exact .inl rfl
    | cons x0 r =>
      have hbB : b ≠ B := by
        rintro rfl
        refine hne off x0 (by simp) fun i hi => ?_
        have := hc 0 x0 rfl i hi
        rwa [Nat.zero_mul, Nat.add_zero] at this
      refine .inr ⟨b, off, e2, hlt, fun j x hj i hi => ?_⟩
      have hblk := hg.block b (by omega) (fun e => hbB (Option.some.inj e))
      have h1 := hc j x hj i hi
      unfold World.cell? at h1 ⊢
      dsimp only at h1 ⊢
      rw [hblk]
      exact h1
/-- The cells of a registry of nothing. -/
theorem zreg_cells {W : World} {B : Nat} {t : TypeId} (h : CellsAt W B t #[.int .i64 0, .int .i64 0, .slice none 0 0, .slice none 0 0]) (off : Nat) :
    (∀ s, W.cell? ⟨B, off, none⟩ ≠ some (.string s)) ∧ ∀ a b c, W.cell? ⟨B, off, none⟩ = some (.int .i64 a) → W.cell? ⟨B, off + 1, none⟩ = some (.int .i64 b) → W.cell? ⟨B, off + 2, none⟩ ≠ some (.int .i64 c) := by
  have c0 := h.cell off
  have c1 := h.cell (off + 1)
  have c2 := h.cell (off + 2)
  rw [c0, c1, c2]
  match off with
  | 0 => simp
  | 1 => simp
  | 2 => simp
  | 3 => simp
  | k + 4 => simp
theorem IsReg.apart {n : Nat} {W W' : World} {v : Value} {K : Ker} {l : List PV} (h : IsReg n W v K l) {B : Nat} {t : TypeId} (hg : W.grownBy W' (some B)) (hn : n ≤ W.heap.size) (hB : CellsAt W B t #[.int .i64 0, .int .i64 0, .slice none 0 0, .slice none 0 0]) : IsReg n W' v K l := by
  obtain ⟨ve, vl, e, h1, h2, h3⟩ := h
  refine ⟨ve, vl, e, h1.apart hg hn ?_, h2.apart hg hn ?_, fun x hx => ?_⟩
  · intro off x _ hc
    exact (zreg_cells hB off).1 _ (hc 0 (by omega))
  · intro off x _ hc
    exact (zreg_cells hB off).1 _ (hc 0 (by omega))
  · obtain ⟨g1, g2, g3⟩ := h3 x hx
    refine ⟨g1.apart hg hn ?_, g2.apart hg hn ?_, g3.apart hg hn ?_⟩
    · intro off x _ hc
      exact (zreg_cells hB off).1 _ (hc 0 (by omega))
    · intro off x _ hc
      exact (zreg_cells hB off).1 _ (hc 0 (by omega))
    · intro off x _ hc
      exact (zreg_cells hB off).2 _ _ _ (hc 0 (by omega)) (hc 1 (by omega)) (hc 2 (by omega))

set_option maxHeartbeats 4000000 in
theorem reg_any (w : World) : Calls Tryz.prog 56 #[] w fun e w' => ∃ v l, e = .returned v ∧ l.map PV.plc = pairL ∧ IsReg w'.heap.size w' v kernK l ∧ Below w.heap.size w w' := by
  have C1 : CellsAt (w.alloc (.cells #[.int .i64 0, .int .i64 0, .slice none 0 0, .slice none 0 0] 27)) w.heap.size 27 #[.int .i64 0, .int .i64 0, .slice none 0 0, .slice none 0 0] := CellsAt.new w 27 #[.int .i64 0, .int .i64 0, .slice none 0 0, .slice none 0 0]
  have B1 : Below w.heap.size w (w.alloc (.cells #[.int .i64 0, .int .i64 0, .slice none 0 0, .slice none 0 0] 27)) := (Below.refl _ _).alloc (Nat.le_refl _) _
  go_enter Tryz.func56, Tryz.ntmps56
  go_wp2_with fail
  refine (kernelFn_any _).mono ?_
  rintro e w1 ⟨vk, rfl, hK, b1⟩
  replace C1 := C1.below b1 C1.lt
  replace B1 := B1.trans (b1.mono B1.size)
  go_wp2_with fail
  refine (pair_any _).mono ?_
  rintro e w2 ⟨v, l, rfl, hl, hP, b2⟩
  replace C1 := C1.below b2 C1.lt
  replace B1 := B1.trans (b2.mono B1.size)
  have hK2 := (hK.below b2).more b2.size
  obtain ⟨ve, rfl, hE⟩ := hK2
  have hR : IsReg w2.heap.size w2 (.agg #[.int .i64 kernK.major, .int .i64 kernK.minor, ve, v]) kernK l := ⟨ve, v, rfl, hE, hP⟩
  obtain ⟨pe, ke, rfl, _⟩ := hE
  have hP' := hP.1
  obtain ⟨pl, kl, rfl, _⟩ := hP'
  have q0 := C1.cell 0
  have q1 := C1.cell 1
  have q2 := C1.cell 2
  have q3 := C1.cell 3
  have f0 := C1.frozen 0
  have f1 := C1.frozen 1
  have f2 := C1.frozen 2
  have f3 := C1.frozen 3
  have hq := C1.lt
  simp at q0 q1 q2 q3
  have HC1 : Hid _ := C1
  have HB1 : Hid _ := B1
  have HR : Hid _ := hR
  have HL : Hid _ := hl
  clear hP hl hR hK b1 b2 B1 C1
  dsimp only [kernK] at *
  go_wp2
  clear q0 q1 q2 q3 f0 f1 f2 f3
  have hF := sets4 (W := w2) (B := w.heap.size) (t := 27) HC1.out (.int .i64 0) (.int .i64 0) (.slice pe 1 ke) (.slice pl l.length kl)
  have hG := sets4_grown w2 w.heap.size (.int .i64 0) (.int .i64 0) (.slice pe 1 ke) (.slice pl l.length kl)
  (try simp only [Exit.inBlock, Exit.then])
  refine bodyPost_ret (results_cell_row rfl _ _ _ _ _ _ _ rfl hF Tryz.underlying27 rfl (by kernel_rfl)) rfl ?_
  refine ⟨_, l, rfl, HL.out, ?_, HB1.out.grown hG HB1.out.size (fun k e => by obtain rfl := Option.some.inj e; exact Nat.le_refl _)⟩
  exact (IsReg.apart (n := w2.heap.size) (W := w2) (v := .agg #[.int .i64 0, .int .i64 0, .slice pe 1 ke, .slice pl l.length kl]) (K := kernK) (l := l) (t := 27) HR.out hG (Nat.le_refl _) HC1.out).more hG.size

def emptyK : Ker := ⟨0, 0, []⟩
theorem rgB_k1 : chkLink kernK pairL = 0 := by kernel_rfl
theorem rgB_c : chkRg kernK pairL = 0 := by
  unfold chkRg
  rw [rgB_k1, ord_pair, if_neg (by decide), if_neg (by decide)]
  exact lnB_a2

/-- A placed module that came, as a value. -/
theorem OwnsPlc.form {base : Nat} {W : World} {y : PV} (h : OwnsPlc base W y) : ∃ a1 n1 c1 a2 n2 c2 a3 n3 c3, y.val = .agg #[.string y.mod.name, .int .i64 y.mod.major, .int .i64 y.mod.minor, .string y.mod.text, .slice a1 n1 c1, .slice a2 n2 c2, .slice a3 n3 c3, .int .i64 y.first] := by
  obtain ⟨o1, o2, o3⟩ := h
  obtain ⟨a1, c1, e1⟩ := own_form o1
  obtain ⟨a2, c2, e2⟩ := own_form o2
  obtain ⟨a3, c3, e3⟩ := own_form o3
  exact ⟨a1, _, c1, a2, _, c2, a3, _, c3, by unfold PV.val; rw [e1, e2, e3]⟩

end Go.Proofs.YtlpnfbpgnfappaaGreat

/- The contract of copies.Registry: rows of its own. -/
namespace Go.Proofs.YtlpnfbpgnfappaaGreat
open Go.RowKit Go.PlainAid Go.Lib

set_option maxRecDepth 100000

/-- A registry whose rows are blocks of their own, none below base. -/
def OwnsReg (base : Nat) (W : World) (v : Value) (K : Ker) (l : List PV) : Prop :=
  ∃ ve vl, v = .agg #[.int .i64 K.major, .int .i64 K.minor, ve, vl] ∧ W.ownsRow base 129 2 ve K.exps.length (K.exps.flatMap expC) ∧ W.ownsRow base 57 8 vl l.length (l.flatMap pvC) ∧ ∀ x ∈ l, OwnsPlc base W x
theorem OwnsPlc.beside {base b n : Nat} {W W' : World} {y : PV} {v : Value} {xs : List Value} (h : OwnsPlc base W y) (hr : W.ownsRow b 57 8 v n xs) (hg : W.grownBy W' v.ownBlock) : OwnsPlc base W' y :=
  ⟨own_beside h.1 hr (by decide) hg, own_beside h.2.1 hr (by decide) hg, own_beside h.2.2 hr (by decide) hg⟩
theorem OwnsPlc.beCell {base B : Nat} {W : World} {y : PV} {t : TypeId} {cs : Array Value} (h : OwnsPlc base W y) (hc : CellsAt W B t cs) (h1 : 129 ≠ t) (h2 : 106 ≠ t) (h3 : 113 ≠ t) {W' : World} (hg : W.grownBy W' (some B)) : OwnsPlc base W' y :=
  ⟨h.1.kept hg (.inr (own_ne_cells h.1 hc h1)), h.2.1.kept hg (.inr (own_ne_cells h.2.1 hc h2)), h.2.2.kept hg (.inr (own_ne_cells h.2.2 hc h3))⟩
theorem OwnsPlc.lower {base b : Nat} {W : World} {y : PV} (h : OwnsPlc base W y) (hb : b ≤ base) : OwnsPlc b W y := ⟨own_down h.1 hb, own_down h.2.1 hb, own_down h.2.2 hb⟩

set_option maxHeartbeats 16000000 in
theorem copyReg_any (K : Ker) (l : List PV) (v : Value) (w : World) (h : IsReg w.heap.size w v K l) (hk : K.exps.length ≤ 255) (hl : l.length ≤ 255) (hm : ∀ x ∈ l, x.mod.exps.length ≤ 255 ∧ x.mod.imps.length ≤ 255 ∧ x.mod.pats.length ≤ 255) :
    Calls Tryz.prog 91 #[v] w fun e w' => (∃ v' l', e = .returned v' ∧ l'.map PV.plc = l.map PV.plc ∧ OwnsReg w.heap.size w' v' K l') ∧ Below w.heap.size w w' := by
  obtain ⟨ve, vl, rfl, hE, hL⟩ := h
  have HE : Hid (∀ W, Below w.heap.size w W → Calls Tryz.prog 125 #[ve] W fun e w' => (∃ r, e = .returned r ∧ w'.ownsRow W.heap.size 129 2 r K.exps.length (K.exps.flatMap expC)) ∧ Below W.heap.size W w') := fun W hb => cloneExp_any _ _ W ((hE.below hb).more hb.size) hk
  have HP : Hid (∀ W, Below w.heap.size w W → Calls Tryz.prog 150 #[vl] W fun e w' => (∃ r, e = .returned r ∧ w'.ownsRow W.heap.size 57 8 r l.length (l.flatMap pvC)) ∧ Below W.heap.size W w') := fun W hb => clonePlc_any _ _ W ((hL.1.below hb).more hb.size) hl (pvs_one hL.2)
  have HC : Hid (∀ x ∈ l, ∀ W, Below w.heap.size w W → Calls Tryz.prog 81 #[x.val] W fun e w' => (∃ y : PV, e = .returned y.val ∧ y.plc = x.plc ∧ OwnsPlc W.heap.size w' y) ∧ Below W.heap.size W w') := fun x hx W hb => copyPlc_any x W (((hL.2 x hx).below hb).more hb.size) (hm x hx).1 (hm x hx).2.1 (hm x hx).2.2
  have hat := hL.2
  obtain ⟨qe, je, rfl, -, -⟩ := hE
  obtain ⟨⟨a, cap, rfl, -, -⟩, -⟩ := hL
  obtain ⟨ma, mi, ks⟩ := K
  dsimp only at *
  generalize hxe : ks.flatMap expC = xe at *
  generalize hlk : ks.length = lk at *
  have B1 : Below w.heap.size w ((w.alloc (.cells #[.int .i64 ma, .int .i64 mi, .slice qe lk je, .slice a l.length cap] 27)).alloc (.cells #[.int .i64 0, .int .i64 0, .slice none 0 0, .slice none 0 0] 27)) := ((Below.refl _ _).alloc (Nat.le_refl _) _).alloc (by simp) _
  have C1 : CellsAt ((w.alloc (.cells #[.int .i64 ma, .int .i64 mi, .slice qe lk je, .slice a l.length cap] 27)).alloc (.cells #[.int .i64 0, .int .i64 0, .slice none 0 0, .slice none 0 0] 27)) w.heap.size 27 #[.int .i64 ma, .int .i64 mi, .slice qe lk je, .slice a l.length cap] := (CellsAt.new w 27 #[.int .i64 ma, .int .i64 mi, .slice qe lk je, .slice a l.length cap]).kept (World.grownBy_alloc _ _ none) (by simp)
  have Z1 : CellsAt ((w.alloc (.cells #[.int .i64 ma, .int .i64 mi, .slice qe lk je, .slice a l.length cap] 27)).alloc (.cells #[.int .i64 0, .int .i64 0, .slice none 0 0, .slice none 0 0] 27)) (w.heap.size + 1) 27 #[.int .i64 0, .int .i64 0, .slice none 0 0, .slice none 0 0] := by
    have := CellsAt.new (w.alloc (.cells #[.int .i64 ma, .int .i64 mi, .slice qe lk je, .slice a l.length cap] 27)) 27 #[.int .i64 0, .int .i64 0, .slice none 0 0, .slice none 0 0]
    rw [World.size_alloc] at this
    exact this
  go_enter Tryz.func91, Tryz.ntmps91
  go_wp2_with fail
  refine (HE.out _ B1).mono ?_
  generalize ((w.alloc (.cells #[.int .i64 ma, .int .i64 mi, .slice qe lk je, .slice a l.length cap] 27)).alloc (.cells #[.int .i64 0, .int .i64 0, .slice none 0 0, .slice none 0 0] 27)) = u1 at B1 C1 Z1
  clear HE
  rintro e w2 ⟨⟨r1, rfl, o1⟩, b1⟩
  obtain ⟨a1, c1, rfl⟩ := own_form o1
  have LU1 : w.heap.size ≤ u1.heap.size := B1.size
  have z1 : w.heap.size + 1 < u1.heap.size := CellsAt.lt Z1
  replace C1 := CellsAt.below C1 b1 (CellsAt.lt C1)
  replace Z1 := CellsAt.below Z1 b1 (CellsAt.lt Z1)
  replace B1 := B1.trans (b1.mono B1.size)
  have C2 : CellsAt (w2.setCell ⟨w.heap.size, 2, none⟩ (.slice a1 lk c1)) w.heap.size 27 #[.int .i64 ma, .int .i64 mi, .slice a1 lk c1, .slice a l.length cap] := CellsAt.set 2 (.slice a1 lk c1) C1
  have g1 := grown_set w2 w.heap.size 2 (.slice a1 lk c1)
  have Z2 := CellsAt.kept Z1 g1 (by simp)
  have B2 := B1.grown g1 B1.size (fun k e => by obtain rfl := Option.some.inj e; exact Nat.le_refl _)
  have O1 := own_kept o1 g1 (fun k e => by obtain rfl := Option.some.inj e; omega)
  have q2 := CellsAt.cell C1 2
  have q3 := CellsAt.cell C1 3
  have f2 := CellsAt.frozen C1 2
  have hl1 := CellsAt.lt C1
  simp at q2 q3
  have HC2 : Hid _ := C2
  have HZ2 : Hid _ := Z2
  have HB2 : Hid _ := B2
  have HO1 : Hid _ := O1
  clear C1 Z1 B1 o1 b1 C2 g1 Z2 B2 O1
  go_wp2_with fail
  refine (HP.out _ HB2.out).mono ?_
  have C2 := HC2.out
  have Z2 := HZ2.out
  have B2 := HB2.out
  have O1 := HO1.out
  clear HC2 HZ2 HB2 HO1 q2 q3 f2 hl1 HP
  generalize w2.setCell ⟨w.heap.size, 2, none⟩ (.slice a1 lk c1) = u2 at C2 Z2 B2 O1
  rintro e w3 ⟨⟨r2, rfl, o2⟩, b2⟩
  obtain ⟨a2, c2, rfl⟩ := own_form o2
  have LU2 : w.heap.size ≤ u2.heap.size := B2.size
  have z2 : w.heap.size + 1 < u2.heap.size := CellsAt.lt Z2
  replace C2 := CellsAt.below C2 b2 (CellsAt.lt C2)
  replace Z2 := CellsAt.below Z2 b2 (CellsAt.lt Z2)
  replace B2 := B2.trans (b2.mono B2.size)
  replace O1 := own_below O1 b2
  have C3 : CellsAt (w3.setCell ⟨w.heap.size, 3, none⟩ (.slice a2 l.length c2)) w.heap.size 27 #[.int .i64 ma, .int .i64 mi, .slice a1 lk c1, .slice a2 l.length c2] := CellsAt.set 3 (.slice a2 l.length c2) C2
  have g2 := grown_set w3 w.heap.size 3 (.slice a2 l.length c2)
  have Z3 := CellsAt.kept Z2 g2 (by simp)
  have B3 := B2.grown g2 B2.size (fun k e => by obtain rfl := Option.some.inj e; exact Nat.le_refl _)
  have O1' := own_kept O1 g2 (fun k e => by obtain rfl := Option.some.inj e; omega)
  have O2' := own_kept o2 g2 (fun k e => by obtain rfl := Option.some.inj e; omega)
  have q3 := CellsAt.cell C2 3
  have f3 := CellsAt.frozen C2 3
  have hl2 := CellsAt.lt C2
  have q3' := CellsAt.cell C3 3
  simp at q3 q3'
  have HC3 : Hid _ := C3
  have HZ3 : Hid _ := Z3
  have HB3 : Hid _ := B3
  have HO1 : Hid _ := O1'
  have HO2 : Hid _ := O2'
  clear C2 Z2 B2 O1 o2 b2 C3 g2 Z3 B3 O1' O2'
  go_wp2_with fail
  have C := HC3.out
  have Zz := HZ3.out
  have B := HB3.out
  have O1 := HO1.out
  have O2 := HO2.out
  clear HC3 HZ3 HB3 HO1 HO2 q3 f3 hl2 q3'
  generalize w3.setCell ⟨w.heap.size, 3, none⟩ (.slice a2 l.length c2) = wL at C Zz B O1 O2 ⊢
  go_loopg [18] l.length (fun gk i wr => ∃ (j : Nat) (dn : List PV), Hid (gk = l.length - j) ∧ j ≤ l.length ∧ i = .int .i64 j ∧ dn.length = j ∧ Hid (dn.map PV.plc = (l.take j).map PV.plc) ∧ Hid (wr.ownsRow w.heap.size 57 8 (.slice a2 l.length c2) l.length ((dn ++ l.drop j).flatMap pvC)) ∧ Hid (∀ y ∈ dn, OwnsPlc w.heap.size wr y) ∧ Hid (wr.ownsRow w.heap.size 129 2 (.slice a1 lk c1) lk xe) ∧ Hid (CellsAt wr w.heap.size 27 #[.int .i64 ma, .int .i64 mi, .slice a1 lk c1, .slice a2 l.length c2]) ∧ Hid (CellsAt wr (w.heap.size + 1) 27 #[.int .i64 0, .int .i64 0, .slice none 0 0, .slice none 0 0]) ∧ Hid (Below w.heap.size w wr))
  case atStart => exact ⟨0, [], (rfl : l.length = l.length - 0), Nat.zero_le _, rfl, rfl, (rfl : ([] : List PV).map PV.plc = (l.take 0).map PV.plc), (by show wL.ownsRow _ _ _ _ _ _; exact own_down O2 LU2), (by intro y hy; simp at hy), own_down O1 LU1, C, Zz, B⟩
  case round =>
    clear C Zz B O1 O2
    obtain ⟨j, dn, HGK, hj, rfl, hdn, HPL, HO2, HYS, HO1, HC2, HZ2, HB2⟩ := hrel
    have C := HC2.out
    have Zz := HZ2.out
    have B := HB2.out
    clear HC2 HZ2 HB2
    by_cases hlj : j < l.length
    · obtain ⟨x, hx⟩ : ∃ x, l[j]? = some x := ⟨_, List.getElem?_eq_getElem hlj⟩
      have hxm := List.mem_of_getElem? hx
      have hel : (dn ++ l.drop j)[j]? = some x := by
        rw [List.getElem?_append_right (by omega), hdn, Nat.sub_self, List.getElem?_drop, Nat.add_zero]
        exact hx
      have HXC := HC.out x hxm
      have HNX : Hid (∀ y : PV, y.plc = x.plc → ((dn ++ [y]).map PV.plc = (l.take (j + 1)).map PV.plc) ∧ (dn ++ l.drop j).set j y = (dn ++ [y]) ++ l.drop (j + 1)) := fun y hy => by
        refine ⟨?_, ?_⟩
        · rw [List.map_append, HPL.out, List.take_add_one, hx, List.map_append]
          simp [hy]
        · rw [drop_at hx, List.set_append_right _ _ (by omega), hdn, Nat.sub_self]
          simp
      obtain ⟨g, c9, cur, ea, hg, hcur, -⟩ : ∃ g c9 cur, Value.slice a2 l.length c2 = .slice (some ⟨g, 0, none⟩) l.length c9 ∧ w.heap.size ≤ g ∧ wr.heap[g]? = some cur ∧ True := by
        rcases HO2.out.2 with ⟨_, hn⟩ | ⟨g, c9, cur, e, hg, hcur, _⟩
        · omega
        · exact ⟨g, c9, _, e, hg, hcur, trivial⟩
      injection ea with ea1 ea2 ea3
      subst ea1 ea3
      have hgw : g < wr.heap.size := (Array.getElem?_eq_some_iff.1 hcur).1
      have fl := fun i (hi : i < 8) => flat_at (C := pvC) (sz := 8) (fun _ => rfl) (dn ++ l.drop j) j x i hel hi
      have cl := fun i (hi : i < 8) => (World.ownsRow.cellAt HO2.out (j * 8 + i) (by omega)).trans (fl i hi)
      obtain ⟨⟨pe, ke, e4, -⟩, ⟨pi, ki, e5, -⟩, ⟨pp, kp, e6, -⟩⟩ := hat x hxm
      have HPUT : Hid (∀ (W : World) (y : PV), W.ownsRow w.heap.size 57 8 (.slice (some ⟨g, 0, none⟩) l.length c2) l.length ((dn ++ l.drop j).flatMap pvC) → _) := fun W y ho => own_put (l := dn ++ l.drop j) (j := j) ho hel y
      have HY : Hid (∀ y : PV, y.plc = x.plc → ∃ r1 r2 r3, y = ⟨x.mod, r1, r2, r3, x.first⟩) := fun y hy => by
        obtain ⟨m, r1, r2, r3, f⟩ := y
        unfold PV.plc at hy
        injection hy with h1 h2
        dsimp only at h1 h2
        exact ⟨r1, r2, r3, by rw [h1, h2]⟩
      obtain ⟨⟨N, xa, xi, T, es, is, ps⟩, ve, vi, vp, fi⟩ := x
      dsimp only [pvC, PV.val] at *
      subst e4 e5 e6
      have c0 : wr.cell? ⟨g, j * 8, none⟩ = some (.string N) := cl 0 (by omega)
      have d1 : wr.cell? ⟨g, j * 8 + 1, none⟩ = some (.int .i64 xa) := cl 1 (by omega)
      have d2 : wr.cell? ⟨g, j * 8 + 2, none⟩ = some (.int .i64 xi) := cl 2 (by omega)
      have d3 : wr.cell? ⟨g, j * 8 + 3, none⟩ = some (.string T) := cl 3 (by omega)
      have d4 : wr.cell? ⟨g, j * 8 + 4, none⟩ = some (.slice pe es.length ke) := cl 4 (by omega)
      have d5 : wr.cell? ⟨g, j * 8 + 5, none⟩ = some (.slice pi is.length ki) := cl 5 (by omega)
      have d6 : wr.cell? ⟨g, j * 8 + 6, none⟩ = some (.slice pp ps.length kp) := cl 6 (by omega)
      have d7 : wr.cell? ⟨g, j * 8 + 7, none⟩ = some (.int .i64 fi) := cl 7 (by omega)
      have hjl : (j : Int) < (l.length : Int) := by omega
      have hj0 : ¬ ((j : Int) < 0) := by omega
      have HXX : Hid (∀ W, Below w.heap.size w W → Calls Tryz.prog 81 #[.agg #[.string N, .int .i64 xa, .int .i64 xi, .string T, .slice pe es.length ke, .slice pi is.length ki, .slice pp ps.length kp, .int .i64 fi]] W fun e w' => (∃ y : PV, e = .returned y.val ∧ y.plc = _ ∧ OwnsPlc W.heap.size w' y) ∧ Below W.heap.size W w') := HXC
      have ga := World.grownBy_alloc wr (.cells #[.string N, .int .i64 xa, .int .i64 xi, .string T, .slice pe es.length ke, .slice pi is.length ki, .slice pp ps.length kp, .int .i64 fi] 57) none
      have HBP : Hid (Below w.heap.size w (wr.alloc (.cells #[.string N, .int .i64 xa, .int .i64 xi, .string T, .slice pe es.length ke, .slice pi is.length ki, .slice pp ps.length kp, .int .i64 fi] 57)).drew) := (B.alloc B.size _).drew
      have HCP : Hid (CellsAt (wr.alloc (.cells #[.string N, .int .i64 xa, .int .i64 xi, .string T, .slice pe es.length ke, .slice pi is.length ki, .slice pp ps.length kp, .int .i64 fi] 57)).drew w.heap.size 27 #[.int .i64 ma, .int .i64 mi, .slice a1 lk c1, .slice (some ⟨g, 0, none⟩) l.length c2]) := (CellsAt.kept (W' := wr.alloc _) C ga (by simp) : _)
      have HZP : Hid (CellsAt (wr.alloc (.cells #[.string N, .int .i64 xa, .int .i64 xi, .string T, .slice pe es.length ke, .slice pi is.length ki, .slice pp ps.length kp, .int .i64 fi] 57)).drew (w.heap.size + 1) 27 #[.int .i64 0, .int .i64 0, .slice none 0 0, .slice none 0 0]) := (CellsAt.kept (W' := wr.alloc _) Zz ga (by simp) : _)
      have HPP : Hid (CellsAt (wr.alloc (.cells #[.string N, .int .i64 xa, .int .i64 xi, .string T, .slice pe es.length ke, .slice pi is.length ki, .slice pp ps.length kp, .int .i64 fi] 57)).drew wr.heap.size 57 #[.string N, .int .i64 xa, .int .i64 xi, .string T, .slice pe es.length ke, .slice pi is.length ki, .slice pp ps.length kp, .int .i64 fi]) := CellsAt.new wr 57 #[.string N, .int .i64 xa, .int .i64 xi, .string T, .slice pe es.length ke, .slice pi is.length ki, .slice pp ps.length kp, .int .i64 fi]
      have HOP : Hid ((wr.alloc (.cells #[.string N, .int .i64 xa, .int .i64 xi, .string T, .slice pe es.length ke, .slice pi is.length ki, .slice pp ps.length kp, .int .i64 fi] 57)).drew.ownsRow w.heap.size 57 8 (.slice (some ⟨g, 0, none⟩) l.length c2) l.length ((dn ++ l.drop j).flatMap pvC)) := (HO2.out.alloc _).drew
      have HOE : Hid ((wr.alloc (.cells #[.string N, .int .i64 xa, .int .i64 xi, .string T, .slice pe es.length ke, .slice pi is.length ki, .slice pp ps.length kp, .int .i64 fi] 57)).drew.ownsRow w.heap.size 129 2 (.slice a1 lk c1) lk xe) := (HO1.out.alloc _).drew
      have HYP : Hid (∀ y ∈ dn, OwnsPlc w.heap.size (wr.alloc (.cells #[.string N, .int .i64 xa, .int .i64 xi, .string T, .slice pe es.length ke, .slice pi is.length ki, .slice pp ps.length kp, .int .i64 fi] 57)).drew y) := fun y hy => (HYS.out y hy).below (((Below.refl _ _).alloc (Nat.le_refl _) _).drew)
      have LWX : w.heap.size + 1 < wr.heap.size := CellsAt.lt Zz
      clear B C Zz HXC HC hx hxm hel fl cl hcur hat hm ga HO2 HO1 HYS
      go_wp2_with fail
      refine wp_region_noPanic ?_
      refine wp_region_L (S := fun w' => CellsAt w' w.heap.size 27 #[.int .i64 ma, .int .i64 mi, .slice a1 lk c1, .slice (some ⟨g, 0, none⟩) l.length c2] ∧ CellsAt w' wr.heap.size 57 #[.string N, .int .i64 xa, .int .i64 xi, .string T, .slice pe es.length ke, .slice pi is.length ki, .slice pp ps.length kp, .int .i64 fi]) (x := 6) (by kernel_rfl) ?_
      generalize (wr.alloc (.cells #[.string N, .int .i64 xa, .int .i64 xi, .string T, .slice pe es.length ke, .slice pi is.length ki, .slice pp ps.length kp, .int .i64 fi] 57)).drew = wd at *
      generalize wr.heap.size = BX at *
      have hS0 : CellsAt wd w.heap.size 27 #[.int .i64 ma, .int .i64 mi, .slice a1 lk c1, .slice (some ⟨g, 0, none⟩) l.length c2] ∧ CellsAt wd BX 57 #[.string N, .int .i64 xa, .int .i64 xi, .string T, .slice pe es.length ke, .slice pi is.length ki, .slice pp ps.length kp, .int .i64 fi] := ⟨HCP.out, HPP.out⟩
      refine wpL_take 0 23 (.pointer (some ⟨w.heap.size, 3, none⟩)) rfl (by kernel_rfl) (fun _ _ _ h => h) hS0 rfl rfl (fun w' hSw => by clear hSw; go_simp) ?_
      simp only [List.setIfInBounds_toArray, List.set_cons_zero, List.set_cons_succ]
      refine wpL_take 1 24 (.slice (some ⟨g, 0, none⟩) l.length c2) rfl (by kernel_rfl) (fun _ _ _ h => h) hS0 rfl rfl (fun w' hSw => by have q := CellsAt.cell hSw.1 3; simp at q; clear hSw; go_simp) ?_
      simp only [List.setIfInBounds_toArray, List.set_cons_zero, List.set_cons_succ]
      refine wpL_take 2 25 (.int .i64 (j : Int)) rfl (by kernel_rfl) (fun _ _ _ h => h) hS0 rfl rfl (fun w' hSw => by clear hSw; go_simp) ?_
      simp only [List.setIfInBounds_toArray, List.set_cons_zero, List.set_cons_succ]
      refine wpL_take 3 26 (.agg #[.string N, .int .i64 xa, .int .i64 xi, .string T, .slice pe es.length ke, .slice pi is.length ki, .slice pp ps.length kp, .int .i64 fi]) rfl (by kernel_rfl) (fun _ _ _ h => h) hS0 rfl rfl (fun w' hSw => by have q0 := CellsAt.cell hSw.2 0; have q1 := CellsAt.cell hSw.2 1; have q2 := CellsAt.cell hSw.2 2; have q3 := CellsAt.cell hSw.2 3; have q4 := CellsAt.cell hSw.2 4; have q5 := CellsAt.cell hSw.2 5; have q6 := CellsAt.cell hSw.2 6; have q7 := CellsAt.cell hSw.2 7; simp at q0 q1 q2 q3 q4 q5 q6 q7; clear hSw; go_simp) ?_
      simp only [List.setIfInBounds_toArray, List.set_cons_zero, List.set_cons_succ]
      clear hS0
      refine wpL_step (i := 4) rfl (by kernel_rfl) (fun K hK => ?_)
      go_simp
      refine (HXX.out _ HBP.out).mono ?_
      rintro e wc ⟨⟨y, rfl, hyp, hoy⟩, bb⟩
      obtain ⟨r1, r2, r3, rfl⟩ := HY.out y hyp
      obtain ⟨s1, k1, e1⟩ := own_form hoy.1
      obtain ⟨s2, k2, e2⟩ := own_form hoy.2.1
      obtain ⟨s3, k3, e3⟩ := own_form hoy.2.2
      dsimp only at e1 e2 e3
      subst e1 e2 e3
      have HBC : Hid (Below w.heap.size w wc) := HBP.out.trans (bb.mono HBP.out.size)
      have HCC : Hid (CellsAt wc w.heap.size 27 #[.int .i64 ma, .int .i64 mi, .slice a1 lk c1, .slice (some ⟨g, 0, none⟩) l.length c2]) := HCP.out.below bb HCP.out.lt
      have HZC : Hid (CellsAt wc (w.heap.size + 1) 27 #[.int .i64 0, .int .i64 0, .slice none 0 0, .slice none 0 0]) := HZP.out.below bb HZP.out.lt
      have HPC : Hid (CellsAt wc BX 57 #[.string N, .int .i64 xa, .int .i64 xi, .string T, .slice pe es.length ke, .slice pi is.length ki, .slice pp ps.length kp, .int .i64 fi]) := HPP.out.below bb HPP.out.lt
      have HOC : Hid (wc.ownsRow w.heap.size 57 8 (.slice (some ⟨g, 0, none⟩) l.length c2) l.length ((dn ++ l.drop j).flatMap pvC)) := own_below HOP.out bb
      have HEC : Hid (wc.ownsRow w.heap.size 129 2 (.slice a1 lk c1) lk xe) := own_below HOE.out bb
      have HYC : Hid (∀ y ∈ dn, OwnsPlc w.heap.size wc y) := fun y hy => (HYP.out y hy).below bb
      have HY1 : Hid (OwnsPlc w.heap.size wc ⟨⟨N, xa, xi, T, es, is, ps⟩, (.slice s1 es.length k1), (.slice s2 is.length k2), (.slice s3 ps.length k3), fi⟩) := hoy.lower HBP.out.size
      have HNN := HNX.out _ hyp
      have HN1 : Hid ((dn ++ [(⟨⟨N, xa, xi, T, es, is, ps⟩, (.slice s1 es.length k1), (.slice s2 is.length k2), (.slice s3 ps.length k3), fi⟩ : PV)]).map PV.plc = (l.take (j + 1)).map PV.plc) := HNN.1
      have HN2 : Hid ((dn ++ l.drop j).set j ⟨⟨N, xa, xi, T, es, is, ps⟩, (.slice s1 es.length k1), (.slice s2 is.length k2), (.slice s3 ps.length k3), fi⟩ = (dn ++ [(⟨⟨N, xa, xi, T, es, is, ps⟩, (.slice s1 es.length k1), (.slice s2 is.length k2), (.slice s3 ps.length k3), fi⟩ : PV)]) ++ l.drop (j + 1)) := HNN.2
      clear bb HBP HCP HZP HPP HOP HOE HYP hoy hyp HNN HNX HXX HY
      dsimp only [PV.val] at *
      go_simp
      refine hK.out _ _ ⟨HCC.out, HPC.out⟩ (fun _ => ?_)
      clear hK K
      refine wpL_take 5 28 (.pointer (some ⟨g, j * 8, none⟩)) rfl (by kernel_rfl) (fun _ _ _ h => h) (show _ ∧ _ from ⟨HCC.out, HPC.out⟩) rfl rfl (fun w' hSw => by clear hSw; go_simp) ?_
      simp only [List.setIfInBounds_toArray, List.set_cons_zero, List.set_cons_succ]
      refine wpL_last (x := 6) rfl (by kernel_rfl) (by kernel_rfl) (fun K hK => ?_)
      obtain ⟨hop, hgp⟩ := HPUT.out wc ⟨⟨N, xa, xi, T, es, is, ps⟩, (.slice s1 es.length k1), (.slice s2 is.length k2), (.slice s3 ps.length k3), fi⟩ HOC.out
      rw [HN2.out] at hop
      dsimp only at hop hgp
      have HOPP : Hid _ := hop
      have HGPP : Hid _ := hgp
      have hln : (l.length * 8 : Nat) = l.length * 8 := rfl
      have hat2 : ∀ i, i < 8 → ∃ u, wc.cell? ⟨g, j * 8 + i, none⟩ = some u := fun i hi => by
        have h1 := HOC.out.cellAt (j * 8 + i) (by omega)
        have h2 : j * 8 + i < ((dn ++ l.drop j).flatMap pvC).length := by rw [HOC.out.1]; omega
        exact ⟨_, h1.trans (List.getElem?_eq_getElem h2)⟩
      obtain ⟨u0, e0⟩ := hat2 0 (by omega)
      rw [Nat.add_zero] at e0
      obtain ⟨u1', e1⟩ := hat2 1 (by omega)
      obtain ⟨u2', e2⟩ := hat2 2 (by omega)
      obtain ⟨u3', e3⟩ := hat2 3 (by omega)
      obtain ⟨u4', e4⟩ := hat2 4 (by omega)
      obtain ⟨u5', e5⟩ := hat2 5 (by omega)
      obtain ⟨u6', e6⟩ := hat2 6 (by omega)
      obtain ⟨u7', e7⟩ := hat2 7 (by omega)
      have f0 := HOC.out.frozenAt (j * 8)
      have f1 := HOC.out.frozenAt (j * 8 + 1)
      have f2 := HOC.out.frozenAt (j * 8 + 2)
      have f3 := HOC.out.frozenAt (j * 8 + 3)
      have f4 := HOC.out.frozenAt (j * 8 + 4)
      have f5 := HOC.out.frozenAt (j * 8 + 5)
      have f6 := HOC.out.frozenAt (j * 8 + 6)
      have f7 := HOC.out.frozenAt (j * 8 + 7)
      clear hat2 hop hgp hln
      go_simp
      refine hK.out _ _ ?_
      refine NoPanic.normal ?_
      clear hK K
      clear e0 e1 e2 e3 e4 e5 e6 e7 f0 f1 f2 f3 f4 f5 f6 f7
      have HB9 : Hid (Below w.heap.size w ((((((((wc.setCell ⟨g, j * 8, none⟩ (.string N)).setCell ⟨g, j * 8 + 1, none⟩ (.int .i64 xa)).setCell ⟨g, j * 8 + 2, none⟩ (.int .i64 xi)).setCell ⟨g, j * 8 + 3, none⟩ (.string T)).setCell ⟨g, j * 8 + 4, none⟩ (.slice s1 es.length k1)).setCell ⟨g, j * 8 + 5, none⟩ (.slice s2 is.length k2)).setCell ⟨g, j * 8 + 6, none⟩ (.slice s3 ps.length k3)).setCell ⟨g, j * 8 + 7, none⟩ (.int .i64 fi))) := HBC.out.grown HGPP.out HBC.out.size (fun q hq => by obtain rfl := Option.some.inj hq; exact hg)
      have HC9 : Hid (CellsAt ((((((((wc.setCell ⟨g, j * 8, none⟩ (.string N)).setCell ⟨g, j * 8 + 1, none⟩ (.int .i64 xa)).setCell ⟨g, j * 8 + 2, none⟩ (.int .i64 xi)).setCell ⟨g, j * 8 + 3, none⟩ (.string T)).setCell ⟨g, j * 8 + 4, none⟩ (.slice s1 es.length k1)).setCell ⟨g, j * 8 + 5, none⟩ (.slice s2 is.length k2)).setCell ⟨g, j * 8 + 6, none⟩ (.slice s3 ps.length k3)).setCell ⟨g, j * 8 + 7, none⟩ (.int .i64 fi)) w.heap.size 27 #[.int .i64 ma, .int .i64 mi, .slice a1 lk c1, .slice (some ⟨g, 0, none⟩) l.length c2]) := HCC.out.kept HGPP.out (fun e => own_ne_cells HOC.out HCC.out (by decide) (by rw [Option.some.inj e]; rfl))
      have HZ9 : Hid (CellsAt ((((((((wc.setCell ⟨g, j * 8, none⟩ (.string N)).setCell ⟨g, j * 8 + 1, none⟩ (.int .i64 xa)).setCell ⟨g, j * 8 + 2, none⟩ (.int .i64 xi)).setCell ⟨g, j * 8 + 3, none⟩ (.string T)).setCell ⟨g, j * 8 + 4, none⟩ (.slice s1 es.length k1)).setCell ⟨g, j * 8 + 5, none⟩ (.slice s2 is.length k2)).setCell ⟨g, j * 8 + 6, none⟩ (.slice s3 ps.length k3)).setCell ⟨g, j * 8 + 7, none⟩ (.int .i64 fi)) (w.heap.size + 1) 27 #[.int .i64 0, .int .i64 0, .slice none 0 0, .slice none 0 0]) := HZC.out.kept HGPP.out (fun e => own_ne_cells HOC.out HZC.out (by decide) (by rw [Option.some.inj e]; rfl))
      have HE9 : Hid (((((((((wc.setCell ⟨g, j * 8, none⟩ (.string N)).setCell ⟨g, j * 8 + 1, none⟩ (.int .i64 xa)).setCell ⟨g, j * 8 + 2, none⟩ (.int .i64 xi)).setCell ⟨g, j * 8 + 3, none⟩ (.string T)).setCell ⟨g, j * 8 + 4, none⟩ (.slice s1 es.length k1)).setCell ⟨g, j * 8 + 5, none⟩ (.slice s2 is.length k2)).setCell ⟨g, j * 8 + 6, none⟩ (.slice s3 ps.length k3)).setCell ⟨g, j * 8 + 7, none⟩ (.int .i64 fi)).ownsRow w.heap.size 129 2 (.slice a1 lk c1) lk xe) := own_beside HEC.out HOC.out (by decide) HGPP.out
      have HY9 : Hid (∀ y ∈ dn ++ [(⟨⟨N, xa, xi, T, es, is, ps⟩, (.slice s1 es.length k1), (.slice s2 is.length k2), (.slice s3 ps.length k3), fi⟩ : PV)], OwnsPlc w.heap.size ((((((((wc.setCell ⟨g, j * 8, none⟩ (.string N)).setCell ⟨g, j * 8 + 1, none⟩ (.int .i64 xa)).setCell ⟨g, j * 8 + 2, none⟩ (.int .i64 xi)).setCell ⟨g, j * 8 + 3, none⟩ (.string T)).setCell ⟨g, j * 8 + 4, none⟩ (.slice s1 es.length k1)).setCell ⟨g, j * 8 + 5, none⟩ (.slice s2 is.length k2)).setCell ⟨g, j * 8 + 6, none⟩ (.slice s3 ps.length k3)).setCell ⟨g, j * 8 + 7, none⟩ (.int .i64 fi)) y) := fun y hy => by
        rcases List.mem_append.1 hy with hy | hy
        · exact (HYC.out y hy).beside HOC.out HGPP.out
        · obtain rfl := List.mem_singleton.1 hy
          exact HY1.out.beside HOC.out HGPP.out
      go_wp2_with fail
      go_roundg (l.length - (j + 1))
      case measure =>
        have := HGK.out
        omega
      case rel => exact ⟨j + 1, dn ++ [(⟨⟨N, xa, xi, T, es, is, ps⟩, (.slice s1 es.length k1), (.slice s2 is.length k2), (.slice s3 ps.length k3), fi⟩ : PV)], (rfl : l.length - (j + 1) = l.length - (j + 1)), by omega, by go_num, by rw [List.length_append, hdn]; rfl, HN1, HOPP, HY9, HE9, HC9, HZ9, HB9⟩
    · obtain rfl : j = l.length := by omega
      have hdr : dn ++ l.drop l.length = dn := by rw [List.drop_length, List.append_nil]
      rw [hdr] at HO2
      rw [List.take_length] at HPL
      clear HC HGK hdr
      have HCq : Hid _ := C
      have HZq : Hid _ := Zz
      have HBq : Hid _ := B
      have q0 := CellsAt.cell C 0
      have q1 := CellsAt.cell C 1
      have q2 := CellsAt.cell C 2
      have q3 := CellsAt.cell C 3
      have z0 := CellsAt.cell Zz 0
      have z1 := CellsAt.cell Zz 1
      have z2 := CellsAt.cell Zz 2
      have z3 := CellsAt.cell Zz 3
      have f0 := CellsAt.frozen Zz 0
      have f1 := CellsAt.frozen Zz 1
      have f2 := CellsAt.frozen Zz 2
      have f3 := CellsAt.frozen Zz 3
      have lz := CellsAt.lt Zz
      simp at q0 q1 q2 q3 z0 z1 z2 z3
      clear C Zz B
      go_wp2
      have hZ9 := sets4 HZq.out (.int .i64 ma) (.int .i64 mi) (.slice a1 lk c1) (.slice a2 l.length c2)
      have hG9 := sets4_grown wr (w.heap.size + 1) (.int .i64 ma) (.int .i64 mi) (.slice a1 lk c1) (.slice a2 l.length c2)
      refine bodyPost_ret (results_cell_row rfl _ _ _ _ _ _ _ rfl hZ9 Tryz.underlying27 rfl (by kernel_rfl)) rfl ?_
      refine ⟨⟨_, dn, rfl, HPL.out, _, _, rfl, ?_, ?_, fun x hx => (HYS.out x hx).beCell HZq.out (by decide) (by decide) (by decide) hG9⟩, HBq.out.grown hG9 HBq.out.size (fun q hq => by obtain rfl := Option.some.inj hq; exact Nat.le_succ _)⟩
      · have := HO1.out.kept hG9 (.inr (own_ne_cells HO1.out HZq.out (by decide)))
        dsimp only
        rw [hlk, hxe]
        exact this
      · have := HO2.out.kept hG9 (.inr (own_ne_cells HO2.out HZq.out (by decide)))
        rw [hdn]
        exact this

end Go.Proofs.YtlpnfbpgnfappaaGreat

/- What the first free run and the first module behind it say of a step, as data. -/
namespace Go.Proofs.YtlpnfbpgnfappaaGreat
open Go.RowKit Go.PlainAid

end Go.Proofs.YtlpnfbpgnfappaaGreat
