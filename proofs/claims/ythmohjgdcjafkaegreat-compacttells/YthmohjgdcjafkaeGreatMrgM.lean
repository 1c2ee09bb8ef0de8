/- Texts that are laid together. -/
import Derived.Test.YthmohjgdcjafkaeGreatMrgF
import Derived.Test.YthmohjgdcjafkaeGreatMrgL
import Derived.Test.YthmohjgdcjafkaeGreatMrgI
import Derived.Deep.LoopGhost
import Derived.Test.YthmohjgdcjafkaeGreatMrgJ
import Derived.Test.YthmohjgdcjafkaeGreatMrgK

/- The contracts of the statements' kernel, pair, and of the document's SameInts. -/
namespace Go.Proofs.YthmohjgdcjafkaeGreat
open Go.RowKit Go.PlainAid

set_option maxRecDepth 100000

def kernK : Ker := ⟨0, 0, [⟨⟨#[107]⟩, 2⟩]⟩
theorem kern_fits : kernK.fits := by
  intro e he
  have : e = ⟨⟨#[107]⟩, 2⟩ := by simpa [kernK] using he
  subst this
  decide
set_option maxHeartbeats 1000000 in
theorem kernelFn_any (w : World) : Calls Tryz.prog 95 #[] w fun e w' => ∃ v, e = .returned v ∧ IsKer w'.heap.size w' v kernK ∧ Below w.heap.size w w' := by
  go_enter Tryz.func95, Tryz.ntmps95
  go_wp2
  (try simp only [Exit.inBlock, Exit.then])
  have hF : CellsAt ((w.alloc (.cells #[.int .i64 0, .int .i64 0, .slice (some ⟨w.heap.size + 1, 0, none⟩) 1 1] 24)).alloc (.cells #[.string ⟨#[107]⟩, .int .i64 2] 128)) w.heap.size 24 #[.int .i64 0, .int .i64 0, .slice (some ⟨w.heap.size + 1, 0, none⟩) 1 1] := CellsAt.kept (CellsAt.new w _ _) (World.grownBy_alloc _ _ none) (by simp)
  refine bodyPost_ret (results_cell_row rfl _ _ _ _ _ _ _ rfl hF Tryz.underlying24 rfl (by kernel_rfl)) rfl ?_
  refine ⟨_, rfl, ⟨_, rfl, ?_⟩, ((Below.refl _ _).alloc (Nat.le_refl _) _).alloc (by simp) _⟩
  have c := CellsAt.new (w.alloc (.cells #[.int .i64 0, .int .i64 0, .slice (some ⟨w.heap.size + 1, 0, none⟩) 1 1] 24)) 128 #[.string ⟨#[107]⟩, .int .i64 2]
  rw [World.size_alloc] at c
  exact rowOf_cells (C := expC) (cells := Exp.cell) (sz := 2) (fun _ => rfl) expC_at c kernK.exps (by decide) 1 rfl

end Go.Proofs.YthmohjgdcjafkaeGreat

/- What must be in any case, of who is meant. -/
namespace Go.Proofs.YthmohjgdcjafkaeGreat
open Go.RowKit Go.PlainAid

set_option maxRecDepth 100000

theorem all1 (vk : Value) (l : List PV) (v vm : Value) (w : World) (hl : l.map PV.plc = pairL) (hK : IsKer w.heap.size w vk kernK) (hP : IsPlcs w.heap.size w v l) (hM : IsMod w.heap.size w vm appM) :
    Calls Tryz.prog 135 #[vk, v, vm] w fun e w' => (∃ r, e = .returned (.tuple #[r, .int .i64 0]) ∧ RowOf 1 intCell w'.heap.size w' r [4356, 2]) ∧ Below w.heap.size w w' := by
  have := all_any kernK vk l v appM vm w hK kern_fits hP (pair_fits hl) hM fits_app
  rw [hl] at this
  have e : allRes kernK pairL appM = ([4356, 2], 0) := by kernel_rfl
  rw [e] at this
  exact this
theorem kernel1 (vk : Value) (w : World) (hK : IsKer w.heap.size w vk kernK) : Calls Tryz.prog 56 #[vk] w fun e w' => e = .returned (.int .i64 0) ∧ Below w.heap.size w w' := by
  have := kernel_any kernK vk w hK kern_fits
  have e : chkKer kernK = 0 := by kernel_rfl
  rwa [e] at this

end Go.Proofs.YthmohjgdcjafkaeGreat

/- The contract of graph.comeTo. -/
namespace Go.Proofs.YthmohjgdcjafkaeGreat
open Go.RowKit Go.PlainAid Go.Maps Go.WideMaps

set_option maxRecDepth 100000

set_option maxHeartbeats 8000000 in
theorem comeTo_any (nx : Mod → Mod → Bool) (K : FuncId) (hK : ∀ w x y, Sem.run Tryz.prog (callFunc K #[x, y]) w = .ok (.enter K #[x, y]) w) (l : List PV) (v : Value) (name : ByteArray) (w : World) (hrow : IsPlcs w.heap.size w v l) (hfit : ∀ x ∈ l, x.mod.fits)
    (hp : ∀ x ∈ l, ∀ y ∈ l, ∀ W, Below w.heap.size w W → Calls Tryz.prog K #[x.modV, y.modV] W fun e W' => e = .returned (.bool (nx x.mod y.mod)) ∧ Below W.heap.size W W') :
    Calls Tryz.prog 78 #[v, .string name, .func (.func K) #[] #[]] w fun e w' => (∃ r ss, e = .returned (.tuple #[r, .int .i64 (comeErr (l.map PV.plc) name)]) ∧ RowOf 1 strCell w'.heap.size w' r ss ∧ ComeRes nx (l.map PV.plc) name ss) ∧ Below w.heap.size w w' := by
  have HW : Hid (∀ W, Below w.heap.size w W → Calls Tryz.prog 100 #[v] W fun e w' => e = .returned (.int .i64 (chkGraph (l.map PV.plc))) ∧ Below W.heap.size W w') := fun W hb => graphWrong_any l v W ((hrow.below hb).more hb.size) hfit
  have HI : Hid (∀ W B, Below w.heap.size w W → B < W.heap.size → W.cell? ⟨B, 0, none⟩ = some (.string name) → Calls Tryz.prog 71 #[v, .func (.func 119) #[] #[.pointer (some ⟨B, 0, none⟩)]] W fun e w' => e = .returned (.int .i64 (ixFrom (fun x : PV => x.mod.name == name) 0 l)) ∧ Below W.heap.size W w') := by
    intro W B hb hlt hB
    exact ixPlc_any l v 119 (.pointer (some ⟨B, 0, none⟩)) (fun w x => enters_of Tryz.func119 (by kernel_rfl) rfl _ w) _ W ((hrow.1.below hb).more hb.size) (fun x hx W' hb' => come1_any B name x W' (Nat.lt_of_lt_of_le hlt hb'.size) ((hb'.cell (p := ⟨B, 0, none⟩) hlt).trans hB) ((((((hrow.2 x hx).below hb).more hb.size)).below hb').more hb'.size))
  have HN : Hid (∀ (i k : Nat) (x y : PV), l[i]? = some x → l[k]? = some y → ∀ W, Below w.heap.size w W → Calls Tryz.prog K #[x.modV, y.modV] W fun e W' => e = .returned (.bool (nx x.mod y.mod)) ∧ Below W.heap.size W W') := fun i k x y hx hy => hp x (List.mem_of_getElem? hx) y (List.mem_of_getElem? hy)
  have HT : Hid (chkGraph (l.map PV.plc) = 0 → l.length ≤ 8 ∧ Told nx l (Next nx (l.map (·.mod))) (nameAt (l.map (·.mod)))) := by
    intro h0
    have h1 := chkGraph_zero.1 h0
    refine ⟨by simpa using h1.1, told_of nx l ?_⟩
    have := h1.2.2
    rw [List.map_map] at this
    exact this
  have HCO : Hid (∀ f ss, Comes nx (l.map (·.mod)) f ss ↔ Rising ss ∧ ∀ x, x ∈ ss ↔ ∃ k, Via (Next nx (l.map (·.mod))) f k ∧ nameAt (l.map (·.mod)) k = x) := fun f ss => Iff.rfl
  have hat := hrow.2
  have key := come_cases nx l name
  obtain ⟨⟨a, cap, rfl, hmax, hrow⟩, _⟩ := hrow
  generalize comeErr (l.map PV.plc) name = R at *
  generalize ComeRes nx (l.map PV.plc) name = CR at *
  generalize chkGraph (l.map PV.plc) = cg at *
  generalize ixFrom (fun x : PV => x.mod.name == name) 0 l = ix at *
  generalize Comes nx (l.map (·.mod)) = CM at *
  generalize Next nx (l.map (·.mod)) = E at *
  generalize nameAt (l.map (·.mod)) = nA at *
  clear hp
  have hmm := @run_makeMap Tryz.prog
  go_enter Tryz.func78, Tryz.ntmps78
  go_wp2_with fail
  have HB1 : Below w.heap.size w (w.alloc (.cells #[.string name] 9)) := (Below.refl _ _).alloc (Nat.le_refl _) _
  refine (HW.out _ HB1).mono ?_
  rintro e w2 ⟨rfl, b2⟩
  have HBOX : Hid (w.heap.size < w2.heap.size ∧ w2.cell? ⟨w.heap.size, 0, none⟩ = some (.string name)) := by
    refine ⟨Nat.lt_of_lt_of_le (by simp) b2.size, ?_⟩
    exact (b2.cell (p := ⟨w.heap.size, 0, none⟩) (by simp)).trans ((CellsAt.new w 9 #[.string name]).cell 0)
  have B2 := HB1.trans (b2.mono HB1.size)
  clear HB1 b2 HW
  rcases key with ⟨h0, rfl, hC⟩ | ⟨rfl, rfl, rfl, hC⟩ | ⟨rfl, f, hf, rfl, rfl, hC⟩
  · have h0' : (R != 0) = true := by simpa using h0
    have HC : Hid (CR []) := hC
    clear hrow hat h0 hC HN HT HCO
    go_wp2
    go_ret2
    exact ⟨⟨_, [], rfl, ⟨none, 0, rfl, by simp, .inl rfl⟩, HC.out⟩, B2⟩
  · have HC : Hid (CR []) := hC
    clear hrow hat hC HN HT HCO
    go_wp2_with fail
    refine (HI.out w2 w.heap.size B2 HBOX.out.1 HBOX.out.2).mono ?_
    rintro e w3 ⟨rfl, b3⟩
    have B3 := B2.trans (b3.mono B2.size)
    clear HI HBOX b3
    go_wp2
    go_ret2
    exact ⟨⟨_, [], rfl, ⟨none, 0, rfl, by simp, .inl rfl⟩, HC.out⟩, B3⟩
  · have HC : Hid (∀ ss, CM f ss → CR ss) := hC
    obtain ⟨h8, hT⟩ := HT.out (by first | rfl | trivial)
    have HTT : Hid (Told nx l E nA) := hT
    clear hC HT hT
    go_wp2_with fail
    refine (HI.out w2 w.heap.size B2 HBOX.out.1 HBOX.out.2).mono ?_
    rintro e w3 ⟨rfl, b3⟩
    have B3 := B2.trans (b3.mono B2.size)
    clear HI HBOX b3 B2
    go_wp2_with fail
    go_loopg [11] (2 * l.length + 1) (fun n q wr => ∃ (met work : List Nat) (D : DataW Unit), Hid ((n = 2 * (l.length - met.length) + work.length ∧ n ≤ 2 * l.length + 1) ∧ Come E l.length f met work ∧ HasNames D (met.map nA)) ∧ wr.ownsMap Tryz.prog 9 (plainElem Tryz.prog 3) w3.heap.size met.length D ∧ QRow wr (w3.heap.size + 1) q work ∧ Below w3.heap.size w3 wr)
    case atStart =>
      refine ⟨[], [f], .map [], ⟨by simp, Come.start E _ f, HasNames.none⟩, (World.ownsMap_made w3 Tryz.prog 9 _).kept (World.grownBy_alloc _ _ none) (by simp), ?_, ((Below.refl _ _).alloc (Nat.le_refl _) _).alloc (by simp) _⟩
      have := CellsAt.new (w3.alloc (.map #[] 0)) 3 #[.int .i64 (f : Int)]
      rw [World.size_alloc] at this
      refine ⟨w3.heap.size + 1, 0, 1, _, by simp, Nat.le_refl _, this, by simp, by simp, by omega, ?_⟩
      intro j x hj
      cases j with
      | zero => simp at hj; subst hj; rfl
      | succ j => simp at hj
    case round =>
      obtain ⟨met, work, D, HX, hown, hq, B⟩ := hrel
      have BW : Below w.heap.size w wr := B3.trans (B.mono B3.size)
      obtain ⟨g, o, cp, rfl, hle, hcp, hg⟩ := hq.form
      cases work with
      | nil =>
        simp only [List.length_nil] at hq hle
        have hmet : met.length ≤ 8 := by have := HX.out.2.1.le; omega
        simp only [List.length_nil]
        clear hrow hat
        go_wp2_with fail
        refine (keysOf_any (some w3.heap.size) wr).mono ?_
        rintro e w4 ⟨rfl, rfl⟩
        go_wp2_with fail
        refine (sortedKeys_any w3.heap.size met.length D _ wr hown (by have := hown.size_le; unfold maxLen; omega) (by have := hown.size_le; omega)).mono ?_
        rintro e w5 ⟨v5, ss, rfl, hperm, hrow5, _, b5⟩
        obtain ⟨rs, hR1, hR2, hR3⟩ := sorted_names hown HX.out.2.2 (HTT.out.nodup met HX.out.2.1.lt HX.out.2.1.nodup) (by rw [List.length_map]; omega) hperm hrow5
        have HCR : Hid (CR rs) := HC.out rs ((HCO.out f rs).2 ⟨hR2, fun x => by
          rw [hR3, List.mem_map]
          constructor
          · rintro ⟨k, hk, rfl⟩; exact ⟨k, (HX.out.2.1.all k).1 hk, rfl⟩
          · rintro ⟨k, hk, rfl⟩; exact ⟨k, (HX.out.2.1.all k).2 hk, rfl⟩⟩)
        have BZ : Below w.heap.size w w5 := (BW.alloc BW.size _).trans (b5.mono (BW.alloc BW.size _).size)
        have HR1 : Hid (RowOf 1 strCell w5.heap.size w5 v5 rs) := hR1
        clear hperm hrow5 hR1 hR2 hR3 b5 BW
        go_wp2
        go_ret2
        exact ⟨⟨_, rs, rfl, HR1.out, HCR.out⟩, BZ⟩
      | cons j rest =>
        have hj : j < l.length := by
          rcases HX.out.2.1.wk j (by simp) with h | h
          · omega
          · exact HX.out.2.1.lt j h
        obtain ⟨x, hx⟩ : ∃ x, l[j]? = some x := ⟨_, List.getElem?_eq_getElem hj⟩
        rcases hrow with h | ⟨b, off, rfl, hbn, hcells⟩
        · subst h; simp at hj
        have HCL : Hid (∀ (W : World), Below w.heap.size w W → ∀ (j : Nat) (x : PV), l[j]? = some x → ∀ i, i < 8 → W.cell? ⟨b, off + j * 8 + i, none⟩ = some (PV.cell x i)) := fun W hb j x hx i hi => (hb.cell (p := ⟨b, off + j * 8 + i, none⟩) hbn).trans (hcells j x hx i hi)
        clear hcells
        obtain ⟨hc0, o2, ho2, hq2⟩ := hq.pop
        have HN2 : Hid (∀ (k : Nat) (y : PV), l[k]? = some y → ∀ W, Below w.heap.size w W → Calls Tryz.prog K #[x.modV, y.modV] W fun e W' => e = .returned (.bool (nx x.mod y.mod)) ∧ Below W.heap.size W W') := fun k y hy => HN.out j k x y hx hy
        have HE2 : Hid (∀ (k : Nat) (y : PV), l[k]? = some y → (E j k ↔ nx x.mod y.mod = true)) := fun k y hy => HTT.out.edge j k x y hx hy
        have HX2 : Hid ((2 * (l.length - met.length) + rest.length < gk ∧ gk ≤ 2 * l.length + 1) ∧ ComeIn E l.length f j 0 met rest ∧ HasNames D (met.map nA)) := by
          have h1 := HX.out.1
          simp at h1
          exact ⟨⟨by omega, h1.2⟩, HX.out.2.1.pop, HX.out.2.2⟩
        obtain ⟨⟨pe, ke, e4, _⟩, ⟨pi, ki, e5, _⟩, ⟨pp, kp, e6, _⟩⟩ := hat x (List.mem_of_getElem? hx)
        have c0 := HCL.out wr BW j x hx 0 (by omega)
        have c1 := HCL.out wr BW j x hx 1 (by omega)
        have c2 := HCL.out wr BW j x hx 2 (by omega)
        have c3 := HCL.out wr BW j x hx 3 (by omega)
        have c4 := HCL.out wr BW j x hx 4 (by omega)
        have c5 := HCL.out wr BW j x hx 5 (by omega)
        have c6 := HCL.out wr BW j x hx 6 (by omega)
        clear hx HN HX
        obtain ⟨⟨N, ma, mi, T, es, is, ps⟩, ve, vi, vp, fi⟩ := x
        dsimp only at e4 e5 e6
        subst e4 e5 e6
        dsimp only [PV.cell] at c0 c1 c2 c3 c4 c5 c6
        dsimp only [PV.modV] at HN2
        rw [Nat.add_zero] at c0
        generalize es.length = le at *
        generalize is.length = li at *
        generalize ps.length = lp at *
        simp only [List.length_cons] at hle hq
        simp only [List.length_cons]
        clear hq
        go_wp2_with fail
        have HA0 : Hid (Below w3.heap.size w3 wr) := B
        go_loopw [11, 44] (fun q i wi => ∃ (k : Nat) (met2 work2 : List Nat) (D2 : DataW Unit), k ≤ l.length ∧ i = .int .i64 k ∧ Hid ((2 * (l.length - met2.length) + work2.length < gk ∧ gk ≤ 2 * l.length + 1) ∧ ComeIn E l.length f j k met2 work2 ∧ HasNames D2 (met2.map nA)) ∧ wi.ownsMap Tryz.prog 9 (plainElem Tryz.prog 3) w3.heap.size met2.length D2 ∧ QRow wi (w3.heap.size + 1) q work2 ∧ Hid (∀ g', q.ownBlock = some g' → g' ≠ wr.heap.size) ∧ CellsAt wi wr.heap.size 31 #[.string N, .int .i64 ma, .int .i64 mi, .string T, .slice pe le ke, .slice pi li ki, .slice pp lp kp] ∧ Below w3.heap.size w3 wi ∧ Hid (w3.heap.size < wr.heap.size)) (fun _ i _ => l.length - (intOf i).toNat)
        case atStart =>
          refine ⟨0, met, rest, D, Nat.zero_le _, rfl, HX2.out, hown.kept (World.grownBy_alloc _ _ none) (by simp), hq2.kept (World.grownBy_alloc _ _ none) (by simp), ?_, CellsAt.new _ _ _, B.alloc B.size _, ?_⟩
          · intro g' hg'
            have : g = g' := by simpa [Value.ownBlock] using hg'
            omega
          · exact hown.lt
        case round =>
          obtain ⟨k, met2, work2, D2, hk, rfl, HY, hown2, hqq, HNE, hCC, BI, HL⟩ := hrel
          have BIW : Below w.heap.size w wr := B3.trans (BI.mono B3.size)
          obtain ⟨g2, o3, cp2, rfl, hle2, hcp2, hg2⟩ := hqq.form
          clear hle hc0 c0 c1 c2 c3 c4 c5 c6 hq2 HX2 hown ho2 hg BW HA0
          by_cases hlt : k < l.length
          · obtain ⟨y, hy⟩ : ∃ y, l[k]? = some y := ⟨_, List.getElem?_eq_getElem hlt⟩
            have hn : y.mod.name.size ≤ 9223372036854775807 := (hfit y (List.mem_of_getElem? hy)).1
            have hkey : keyOf Tryz.prog 9 (.string y.mod.name) = some (.string y.mod.name.data.toList) := keyOf_string_mk Tryz.underlying9 hn
            have hhas := HY.out.2.2 y.mod.name
            have HIN : Hid (((met2.map nA).any fun z => z == y.mod.name) = true ↔ k ∈ met2) := by
              have := HTT.out.met met2 HY.out.2.1.lt k hlt
              rw [HTT.out.name k y hy] at this
              exact this
            have HPUT : Hid (∀ d, HasNames (D2.put (.string y.mod.name.data.toList) d) ((met2 ++ [k]).map nA)) := fun d => by
              rw [List.map_append, List.map_cons, List.map_nil, HTT.out.name k y hy]
              exact HY.out.2.2.put hown2.isMap y.mod.name d
            have HNC : Hid (∀ W, Below w.heap.size w W → Calls Tryz.prog K #[.agg #[.string N, .int .i64 ma, .int .i64 mi, .string T, .slice pe le ke, .slice pi li ki, .slice pp lp kp], y.modV] W fun e W' => e = .returned (.bool (nx ⟨N, ma, mi, T, es, is, ps⟩ y.mod)) ∧ Below W.heap.size W W') := HN2.out k y hy
            have HED : Hid (E j k ↔ nx ⟨N, ma, mi, T, es, is, ps⟩ y.mod = true) := HE2.out k y hy
            obtain ⟨⟨ye, je, e4, _⟩, ⟨yi, ji, e5, _⟩, ⟨yp, jp, e6, _⟩⟩ := hat y (List.mem_of_getElem? hy)
            have c0 := HCL.out wr BIW k y hy 0 (by omega)
            have c1 := HCL.out wr BIW k y hy 1 (by omega)
            have c2 := HCL.out wr BIW k y hy 2 (by omega)
            have c3 := HCL.out wr BIW k y hy 3 (by omega)
            have c4 := HCL.out wr BIW k y hy 4 (by omega)
            have c5 := HCL.out wr BIW k y hy 5 (by omega)
            have c6 := HCL.out wr BIW k y hy 6 (by omega)
            have c7 := HCL.out wr BIW k y hy 7 (by omega)
            have hC2 := hCC.kept (World.grownBy_alloc wr (.cells #[.string y.mod.name, .int .i64 y.mod.major, .int .i64 y.mod.minor, .string y.mod.text, y.ve, y.vi, y.vp, .int .i64 y.first] 54) none) (by simp)
            have m0 := hC2.cell 0
            have m1 := hC2.cell 1
            have m2 := hC2.cell 2
            have m3 := hC2.cell 3
            have m4 := hC2.cell 4
            have m5 := hC2.cell 5
            have m6 := hC2.cell 6
            simp at m0 m1 m2 m3 m4 m5 m6
            clear hy
            generalize nx ⟨N, ma, mi, T, es, is, ps⟩ y.mod = t at HNC HED
            obtain ⟨⟨N', ma', mi', T', es', is', ps'⟩, ve, vi, vp, fi'⟩ := y
            dsimp only at e4 e5 e6 hn hkey hhas HIN HPUT hC2 m0 m1 m2 m3 m4 m5 m6
            subst e4 e5 e6
            dsimp only [PV.cell] at c0 c1 c2 c3 c4 c5 c6 c7
            dsimp only [PV.modV] at HNC
            rw [Nat.add_zero] at c0
            generalize es'.length = le' at *
            generalize is'.length = li' at *
            generalize ps'.length = lp' at *
            generalize (met2.map nA).any (fun z => z == N') = TT at HIN hhas
            cases TT
            · go_wp2_with (first
                | (at_lookup; refine wpList_lookup_own_ok_int _ rfl _ _ 146 rfl 9 3 .i64 lawS Tryz.underlying146 Tryz.underlying3 (zeroI _) w3.heap.size met2.length D2 rfl (hown2.kept (World.grownBy_alloc _ _ none) (by simp)) _ _ rfl hkey ?_; intro c hat' hwc; clear hat' hwc))
              refine Calls.mono (HNC.out _ (BIW.alloc BIW.size _)) ?_
              rintro e wc ⟨rfl, bc⟩
              have hownc := map_below (hown2.kept (World.grownBy_alloc wr (.cells #[.string N', .int .i64 ma', .int .i64 mi', .string T', .slice ye le' je, .slice yi li' ji, .slice yp lp' jp, .int .i64 fi'] 54) none) (by simp)) bc (by have := hown2.lt; simp; omega)
              have hqc := (hqq.kept (World.grownBy_alloc wr (.cells #[.string N', .int .i64 ma', .int .i64 mi', .string T', .slice ye le' je, .slice yi li' ji, .slice yp lp' jp, .int .i64 fi'] 54) none) (by simp)).below bc (Nat.le_refl _)
              have hCc := hC2.below bc hC2.lt
              have cN : wc.cell? ⟨wr.heap.size, 0, none⟩ = some (.string N') := (bc.cell (p := ⟨wr.heap.size, 0, none⟩) (by simp)).trans ((CellsAt.new wr 54 #[.string N', .int .i64 ma', .int .i64 mi', .string T', .slice ye le' je, .slice yi li' ji, .slice yp lp' jp, .int .i64 fi']).cell 0)
              have BC : Below w3.heap.size w3 wc := (BI.alloc BI.size _).trans (bc.mono (BI.alloc BI.size _).size)
              have HSZ : Hid (wr.heap.size < wc.heap.size) := Nat.lt_of_lt_of_le (by simp) bc.size
              clear c0 c1 c2 c3 c4 c5 c6 c7 m0 m1 m2 m3 m4 m5 m6 hC2 bc HNC hat BIW
              cases t
              · go_wp2
                exact ⟨⟨k + 1, met2, work2, D2, by omega, by go_num, ⟨HY.out.1, HY.out.2.1.skip (.inr (fun he => by simpa using HED.out.1 he)), HY.out.2.2⟩, hownc, hqc, HNE.out, hCc, BC, HL.out⟩, by simp [intOf]; omega⟩
              · have hm2 : met2.length ≤ 8 := by have := HY.out.2.1.le; omega
                have hw2 : work2.length ≤ 17 := by have := HY.out.1; omega
                have HNEM : Hid (∀ g', Value.ownBlock (.slice (some ⟨g2, o3, none⟩) work2.length cp2) = some g' → some g' ≠ some w3.heap.size) := fun g' h1 h2 => by
                  have := (hqq.base g' h1).1
                  injection h2 with h2
                  omega
                have HADD : Hid (ComeIn E l.length f j (k + 1) (met2 ++ [k]) (work2 ++ [k]) ∧ 2 * (l.length - (met2 ++ [k]).length) + (work2 ++ [k]).length < gk) := by
                  have hnot : k ∉ met2 := fun h => by simpa using HIN.out.2 h
                  have hc := HY.out.2.1.add hnot hlt (HED.out.2 rfl)
                  refine ⟨hc, ?_⟩
                  have h1 := HY.out.1
                  have h2 := hc.le
                  simp at h2 ⊢
                  omega
                go_wp2_with (first
                  | (at_mapUpdate; refine wpList_mapUpdate_own _ rfl _ _ _ 146 rfl 9 3 lawS Tryz.underlying146 _ w3.heap.size met2.length _ rfl hownc (by unfold maxLen; omega) _ _ _ rfl rfl hkey _ [] (plainElem_int Tryz.underlying3 (WalkArith.wf_i64 (by omega))) ?_; intro w1 hown1 hgrow1)
                  | (at_builtin; refine wpList_queue _ rfl _ _ rfl (w3.heap.size + 1) (.slice (some ⟨g2, o3, none⟩) work2.length cp2) work2 rfl ((hqc.kept hgrow1 HNEM.out).kept (World.grownBy_alloc _ _ none) (by simp)) w1.heap.size k rfl ((CellsAt.new w1 3 #[.int .i64 (k : Int)]).cell 0) (by omega) (by have := hown1.lt; simp; omega) ?_; intro v' wq hq' hgq hv'))
                have BG := BC.grown hgrow1 BC.size (fun i hi => by cases hi; exact Nat.le_refl _)
                have BH := BG.alloc BG.size (.cells #[.int .i64 (k : Int)] 3)
                have OW := (hown1.kept (World.grownBy_alloc _ _ none) (by simp)).kept hgq (fun e => HNEM.out _ e.symm rfl)
                rw [show met2.length + 1 = (met2 ++ [k]).length by simp] at OW
                refine ⟨⟨k + 1, met2 ++ [k], work2 ++ [k], _, by omega, by go_num, ⟨⟨HADD.out.2, HY.out.1.2⟩, HADD.out.1, HPUT.out _⟩, OW, hq', ?_, ?_, BH.grown hgq BH.size (fun i hi => by have := (hqq.base i hi).1; omega), HL.out⟩, by simp [intOf]; omega⟩
                · intro g' hg'
                  rcases hv' g' hg' with h1 | h1
                  · exact HNE.out g' h1
                  · have h2 := hCc.lt
                    have h3 := hgrow1.size
                    simp at h1
                    omega
                · refine ((hCc.kept hgrow1 (fun e => ?_)).kept (World.grownBy_alloc _ _ none) (by simp)).kept hgq (fun e => HNE.out _ e.symm rfl)
                  injection e with e
                  have := HL.out
                  omega
            · go_wp2_with (first
                | (at_lookup; refine wpList_lookup_own_ok_int _ rfl _ _ 146 rfl 9 3 .i64 lawS Tryz.underlying146 Tryz.underlying3 (zeroI _) w3.heap.size met2.length D2 rfl (hown2.kept (World.grownBy_alloc _ _ none) (by simp)) _ _ rfl hkey ?_; intro c hat' hwc; clear hat' hwc))
              exact ⟨⟨k + 1, met2, work2, D2, by omega, by go_num, ⟨HY.out.1, HY.out.2.1.skip (.inl (HIN.out.1 rfl)), HY.out.2.2⟩, hown2.kept (World.grownBy_alloc _ _ none) (by simp), hqq.kept (World.grownBy_alloc _ _ none) (by simp), HNE.out, hC2, BI.alloc BI.size _, HL.out⟩, by simp [intOf]; omega⟩
          · obtain rfl : k = l.length := by omega
            go_wp2_with fail
            go_roundg (2 * (l.length - met2.length) + work2.length)
            case measure => exact HY.out.1.1
            case rel => exact ⟨met2, work2, D2, ⟨⟨rfl, by have := HY.out.1; omega⟩, HY.out.2.1.fin (fun k hk => HTT.out.lt _ _ hk), HY.out.2.2⟩, hown2, hqq, BI⟩

end Go.Proofs.YthmohjgdcjafkaeGreat

/- The contracts of graph.Needs and graph.Users. -/
namespace Go.Proofs.YthmohjgdcjafkaeGreat
open Go.RowKit Go.PlainAid

set_option maxRecDepth 100000

set_option maxHeartbeats 2000000 in
theorem users1_any (x y : PV) (w : World) (hx : PlcAt w.heap.size w x) (hy : PlcAt w.heap.size w y) :
    Calls Tryz.prog 79 #[x.modV, y.modV] w fun e w' => e = .returned (.bool (nxUse x.mod y.mod)) ∧ Below w.heap.size w w' := by
  have HA : Hid (∀ W, Below w.heap.size w W → Calls Tryz.prog 80 #[y.modV, .string x.mod.name] W fun e w' => e = .returned (.bool (nxUse x.mod y.mod)) ∧ Below W.heap.size W w') := fun W hb => asks_any y.mod y.modV x.mod.name W (((hy.below hb).more hb.size).isMod)
  obtain ⟨⟨pe, ke, e4, _⟩, ⟨pi, ki, e5, _⟩, ⟨pp, kp, e6, _⟩⟩ := hx
  obtain ⟨⟨ye, je, f4, _⟩, ⟨yi, ji, f5, _⟩, ⟨yp, jp, f6, _⟩⟩ := hy
  generalize nxUse x.mod y.mod = t at *
  obtain ⟨⟨N, ma, mi, T, es, is, ps⟩, ve, vi, vp, fi⟩ := x
  obtain ⟨⟨N', ma', mi', T', es', is', ps'⟩, ve', vi', vp', fi'⟩ := y
  dsimp only at e4 e5 e6 f4 f5 f6
  subst e4 e5 e6 f4 f5 f6
  dsimp only [PV.modV] at *
  generalize es.length = le at *
  generalize is.length = li at *
  generalize ps.length = lp at *
  generalize es'.length = le' at *
  generalize is'.length = li' at *
  generalize ps'.length = lp' at *
  have HB : Hid (Below w.heap.size w ((w.alloc (.cells #[.string N, .int .i64 ma, .int .i64 mi, .string T, .slice pe le ke, .slice pi li ki, .slice pp lp kp] 31)).alloc (.cells #[.string N', .int .i64 ma', .int .i64 mi', .string T', .slice ye le' je, .slice yi li' ji, .slice yp lp' jp] 31))) := ((Below.refl _ _).alloc (Nat.le_refl _) _).alloc (by simp) _
  go_enter Tryz.func79, Tryz.ntmps79
  go_wp2_with fail
  refine (HA.out _ HB.out).mono ?_
  rintro e w2 ⟨rfl, b2⟩
  have B2 := HB.out.trans (b2.mono HB.out.size)
  clear HA HB b2
  go_wp2
  go_ret
  exact ⟨rfl, B2⟩

set_option maxHeartbeats 1000000 in
theorem users_any (l : List PV) (v : Value) (name : ByteArray) (w : World) (hrow : IsPlcs w.heap.size w v l) (hfit : ∀ x ∈ l, x.mod.fits) :
    Calls Tryz.prog 37 #[v, .string name] w fun e w' => (∃ r ss, e = .returned (.tuple #[r, .int .i64 (comeErr (l.map PV.plc) name)]) ∧ RowOf 1 strCell w'.heap.size w' r ss ∧ ComeRes nxUse (l.map PV.plc) name ss) ∧ Below w.heap.size w w' := by
  have HC := comeTo_any nxUse 79 (fun w x y => enters_of Tryz.func79 (by kernel_rfl) rfl _ w) l v name w hrow hfit (fun x hx y hy W hb => users1_any x y W (((hrow.2 x hx).below hb).more hb.size) (((hrow.2 y hy).below hb).more hb.size))
  obtain ⟨⟨a, cap, rfl, _, _⟩, _⟩ := hrow
  generalize comeErr (l.map PV.plc) name = R at *
  generalize ComeRes nxUse (l.map PV.plc) name = CR at *
  generalize l.length = ll at *
  go_enter Tryz.func37, Tryz.ntmps37
  go_wp2_with fail
  refine HC.mono ?_
  rintro e w2 ⟨⟨r, ss, rfl, hr, hs⟩, b2⟩
  have HR : Hid (RowOf 1 strCell w2.heap.size w2 r ss ∧ CR ss) := ⟨hr, hs⟩
  clear HC hr hs
  go_wp2
  go_ret2
  exact ⟨⟨r, ss, rfl, HR.out.1, HR.out.2⟩, b2⟩

end Go.Proofs.YthmohjgdcjafkaeGreat

/- What must be in any case, of graphs; rows of texts. -/
namespace Go.Proofs.YthmohjgdcjafkaeGreat
open Go.RowKit Go.PlainAid

set_option maxRecDepth 100000

def appN : ByteArray := ⟨#[97, 112, 112]⟩
def libN : ByteArray := ⟨#[108, 105, 98]⟩
theorem chk_pairG : chkGraph pairL = 0 := by kernel_rfl
theorem err_app : comeErr pairL appN = 0 := by kernel_rfl
theorem err_lib : comeErr pairL libN = 0 := by kernel_rfl
theorem next_need {i k : Nat} : Next nxNeed [appM, libM] i k ↔ i = 0 ∧ k = 1 := by
  have e00 : nxNeed appM appM = false := by kernel_rfl
  have e01 : nxNeed appM libM = true := by kernel_rfl
  have e1 : ∀ m, nxNeed libM m = false := fun m => by rfl
  constructor
  · rintro ⟨x, y, hx, hy, h⟩
    have hi : i = 0 ∨ i = 1 := by have := (List.getElem?_eq_some_iff.1 hx).1; simp at this; omega
    have hk : k = 0 ∨ k = 1 := by have := (List.getElem?_eq_some_iff.1 hy).1; simp at this; omega
    rcases hi with rfl | rfl
    · rcases hk with rfl | rfl
      · injection hx with hx
        injection hy with hy
        subst hx hy
        rw [e00] at h
        cases h
      · exact ⟨rfl, rfl⟩
    · injection hx with hx
      subst hx
      rw [e1] at h
      cases h
  · rintro ⟨rfl, rfl⟩
    exact ⟨appM, libM, rfl, rfl, e01⟩
theorem via_need {i k : Nat} : Via (Next nxNeed [appM, libM]) i k ↔ i = 0 ∧ k = 1 := by
  constructor
  · intro h
    exact h.walk (M := fun k => i = 0 ∧ k = 1) (fun _ e => next_need.1 e) (fun _ _ _ ih e => by have := next_need.1 e; omega)
  · exact fun h => .one (next_need.2 h)
theorem name_pair {f : Nat} (hf : f < 2) : nameAt [appM, libM] f = if f = 0 then appN else libN := by
  have : f = 0 ∨ f = 1 := by omega
  rcases this with rfl | rfl <;> rfl
theorem app_lib : appN ≠ libN := by
  intro h
  have := congrArg ByteArray.size h
  have h2 := congrArg (fun b : ByteArray => b.data.toList) h
  exact absurd h2 (by decide)
theorem come_app {ss : List ByteArray} (h : ComeRes nxNeed pairL appN ss) : ss = [libN] := by
  rcases h with ⟨h, _⟩ | ⟨_, f, hf, hn, hr, hm⟩
  · exact absurd err_app h
  have hf2 : f < 2 := hf
  rw [show pairL.map (·.mod) = [appM, libM] from rfl] at hn hm
  rw [name_pair hf2] at hn
  have h0 : f = 0 := by
    by_cases e : f = 0
    · exact e
    · rw [if_neg e] at hn; exact absurd hn.symm app_lib
  subst h0
  refine Rising.same hr (by simp [Rising]) (fun x => ?_)
  rw [hm]
  constructor
  · rintro ⟨k, hk, rfl⟩
    obtain ⟨_, rfl⟩ := via_need.1 hk
    simp [name_pair]
  · intro hx
    obtain rfl : x = libN := by simpa using hx
    exact ⟨1, via_need.2 ⟨rfl, rfl⟩, rfl⟩
theorem come_lib {ss : List ByteArray} (h : ComeRes nxUse pairL libN ss) : ss = [appN] := by
  rcases h with ⟨h, _⟩ | ⟨_, f, hf, hn, hr, hm⟩
  · exact absurd err_lib h
  have hf2 : f < 2 := hf
  rw [show pairL.map (·.mod) = [appM, libM] from rfl] at hn hm
  rw [name_pair hf2] at hn
  have h0 : f = 1 := by
    by_cases e : f = 0
    · rw [if_pos e] at hn; exact absurd hn app_lib
    · omega
  subst h0
  refine Rising.same hr (by simp [Rising]) (fun x => ?_)
  rw [hm]
  constructor
  · rintro ⟨k, hk, rfl⟩
    obtain ⟨rfl, _⟩ := via_need.1 (via_turn.1 hk)
    simp [name_pair]
  · intro hx
    obtain rfl : x = appN := by simpa using hx
    exact ⟨0, via_turn.2 (via_need.2 ⟨rfl, rfl⟩), rfl⟩
theorem ord_pair : ordOf pairL = ([libN, appN], 0) := by
  unfold ordOf
  rw [if_neg (by rw [chk_pairG]; exact fun h => h rfl)]
  have hr : risen pairL = [appM, libM] := by
    unfold risen
    refine List.mergeSort_of_pairwise ?_
    show List.Pairwise _ [appM, libM]
    rw [List.pairwise_cons]
    refine ⟨fun x hx => ?_, by simp⟩
    obtain rfl : x = libM := by simpa using hx
    show decide (appM.name.data.toList ≤ libM.name.data.toList) = true
    decide
  rw [hr]
  exact ordRes_some (by kernel_rfl)

end Go.Proofs.YthmohjgdcjafkaeGreat

/- What must be in any case, of images. -/
namespace Go.Proofs.YthmohjgdcjafkaeGreat
open Go.RowKit Go.PlainAid

set_option maxRecDepth 100000

theorem lnB_i2 : (imageOf kernK pairL ⟨#[97, 112, 112]⟩).2 = 0 := by kernel_rfl
theorem lnB_is : (imageOf kernK pairL ⟨#[97, 112, 112]⟩).1.size = 64 := by kernel_rfl
theorem lnB_i9 : (imageOf kernK pairL ⟨#[97, 112, 112]⟩).1.extract 0 9 = ⟨#[5, 17, 0, 0, 223, 247, 255, 46, 255]⟩ := by kernel_rfl
theorem lnB_a2 : (areaOf kernK pairL).2 = 0 := by kernel_rfl
theorem lnB_as : (areaOf kernK pairL).1.size = 1024 := by kernel_rfl
theorem lnB_a64 : (areaOf kernK pairL).1.extract 64 128 = (imageOf kernK pairL ⟨#[97, 112, 112]⟩).1 := by kernel_rfl
theorem lnB_a256 : (areaOf kernK pairL).1.extract 256 265 = ⟨#[97, 98, 99, 100, 101, 102, 103, 104, 255]⟩ := by kernel_rfl

end Go.Proofs.YthmohjgdcjafkaeGreat
