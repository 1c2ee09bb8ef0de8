/- Texts that are laid together. -/
import Derived.Test.YtppmihnbpmkbnadGreatMrgS
import Derived.Test.YtppmihnbpmkbnadGreatMrgF
import Derived.Test.YtppmihnbpmkbnadGreatMrgC
import Derived.Test.YtppmihnbpmkbnadGreatMrgI

/- The contract of the document's AreaOf. -/
namespace Go.Proofs.YtppmihnbpmkbnadGreat
open Go.RowKit Go.PlainAid

set_option maxRecDepth 100000

set_option maxHeartbeats 8000000 in
theorem rfArea_any (K : Ker) (vk : Value) (l : List PV) (v : Value) (w : World) (hK : IsKer w.heap.size w vk K) (hrow : IsPlcs w.heap.size w v l) (h0 : chkLink K (l.map PV.plc) = 0) :
    Calls Tryz.prog 14 #[vk, v] w fun e w' => e = .returned (.tuple #[.string (areaFrom K (l.map PV.plc) ⟨#[]⟩ (l.map PV.plc)).1, .int .i64 (areaFrom K (l.map PV.plc) ⟨#[]⟩ (l.map PV.plc)).2]) ∧ Below w.heap.size w w' := by
  have HM : Hid (∀ (j : Nat) x, l[j]? = some x → ∀ W, Below w.heap.size w W → Calls Tryz.prog 13 #[vk, v, .int .i64 j] W fun e w' => e = .returned (.tuple #[.string (imgRes K (l.map PV.plc) x.plc).1, .int .i64 (imgRes K (l.map PV.plc) x.plc).2]) ∧ Below W.heap.size W w') := fun j x hx W hb =>
    rfImage_any K vk l v j x W ((hK.below hb).more hb.size) ((hrow.below hb).more hb.size) h0 hx
  have HO2 : Hid (okPl 0 (l.map PV.plc)) := (chkReg_zero.1 (chkLink_zero h0).2.1).2.2
  have h8 : l.length ≤ 8 := by simpa using (chkReg_zero.1 (chkLink_zero h0).2.1).1
  have HIS : Hid (∀ p, (imgRes K (l.map PV.plc) p).2 = 0 → (imgRes K (l.map PV.plc) p).1.size = 64 * szM p.mod) := fun p h => imgRes_size h
  clear h0
  obtain ⟨vke, rfl, hE⟩ := hK
  obtain ⟨qe, je, rfl, _, _⟩ := hE
  obtain ⟨⟨a, cap, rfl, hmax, hrow⟩, _⟩ := hrow
  have HAC : Hid (∀ s p r, areaFrom K (l.map PV.plc) s (p :: r) = if (imgRes K (l.map PV.plc) p).2 ≠ 0 then (⟨#[]⟩, (imgRes K (l.map PV.plc) p).2) else areaFrom K (l.map PV.plc) (fillTo s (64 * p.first.toNat) ++ (imgRes K (l.map PV.plc) p).1) r) := fun _ _ _ => rfl
  have HAN : Hid (∀ s, areaFrom K (l.map PV.plc) s [] = (fillTo s 1024, 0)) := fun _ => rfl
  generalize areaFrom K (l.map PV.plc) = AF at *
  generalize hLL : l.map PV.plc = L at *
  generalize imgRes K L = IR at *
  obtain ⟨ma, mi, ks⟩ := K
  dsimp only at *
  generalize ks.length = lk at *
  have B1 : Below w.heap.size w (w.alloc (.cells #[.int .i64 ma, .int .i64 mi, .slice qe lk je] 24)) := (Below.refl _ _).alloc (Nat.le_refl _) _
  have K1 : CellsAt (w.alloc (.cells #[.int .i64 ma, .int .i64 mi, .slice qe lk je] 24)) w.heap.size 24 #[.int .i64 ma, .int .i64 mi, .slice qe lk je] := CellsAt.new w 24 #[.int .i64 ma, .int .i64 mi, .slice qe lk je]
  go_enter Tryz.func14, Tryz.ntmps14
  go_wp2_with fail
  go_loopw [6, 7] (fun f i wr => ∃ (k : Nat) (S : ByteArray), k ≤ l.length ∧ i = .int .i64 k ∧ f = .string S ∧ Hid (∃ e : Nat, S.size ≤ 64 * e ∧ okPl e (L.drop k)) ∧ Hid (AF ⟨#[]⟩ L = AF S (L.drop k)) ∧ Below (w.heap.size + 1) (w.alloc (.cells #[.int .i64 ma, .int .i64 mi, .slice qe lk je] 24)) wr) (fun _ i _ => l.length - (intOf i).toNat)
  case atStart => exact ⟨0, ⟨#[]⟩, Nat.zero_le _, rfl, rfl, (⟨0, Nat.le_refl _, HO2.out⟩ : ∃ e : Nat, (⟨#[]⟩ : ByteArray).size ≤ 64 * e ∧ okPl e (L.drop 0)), (by show AF ⟨#[]⟩ L = AF ⟨#[]⟩ (L.drop 0); rfl), Below.refl _ _⟩
  case round =>
    obtain ⟨k, S, hk, rfl, rfl, HSZ, HCC, B⟩ := hrel
    have B' : Below w.heap.size w wr := B1.trans (B.mono (by omega))
    have K3 := K1.below B (by omega)
    by_cases hlt : k < l.length
    · obtain ⟨x, hx⟩ : ∃ x, l[k]? = some x := ⟨_, List.getElem?_eq_getElem hlt⟩
      have hLx : L[k]? = some x.plc := by rw [← hLL, List.getElem?_map, hx]; rfl
      rcases hrow with h | ⟨b, off, rfl, hbn, hcells⟩
      · subst h; simp at hlt
      have HR : Hid (AF ⟨#[]⟩ L = if (IR x.plc).2 ≠ 0 then (⟨#[]⟩, (IR x.plc).2) else AF (fillTo S (64 * x.first.toNat) ++ (IR x.plc).1) (L.drop (k + 1))) := by
        show AF ⟨#[]⟩ L = _
        rw [HCC.out, drop_at hLx, HAC.out]
        rfl
      obtain ⟨e, he, hpl⟩ := HSZ.out
      rw [drop_at hLx] at hpl
      obtain ⟨p1, p2, p3, p4⟩ := hpl
      change (e : Int) ≤ x.first at p1
      change 1 ≤ szM x.mod at p2
      change x.first + (szM x.mod : Int) ≤ 16 at p3
      change okPl (x.first + (szM x.mod : Int)) (L.drop (k + 1)) at p4
      have HIX : Hid ((IR x.plc).2 = 0 → (IR x.plc).1.size = 64 * szM x.mod) := HIS.out x.plc
      obtain ⟨n, hn⟩ : ∃ n : Nat, x.first = n := ⟨x.first.toNat, by omega⟩
      have HX := HM.out k x hx
      have c7' := hcells k _ hx 7 (by omega)
      change w.cell? _ = some (.int .i64 x.first) at c7'
      rw [hn] at HR p1 p3 p4 c7'
      rw [Int.toNat_natCast] at HR
      generalize IR x.plc = R at HX HR HIX
      generalize szM x.mod = zz at *
      have HP4 : Hid (okPl ((n + zz : Nat) : Int) (L.drop (k + 1))) := by
        show okPl ((n + zz : Nat) : Int) (L.drop (k + 1))
        rw [show ((n + zz : Nat) : Int) = (n : Int) + (zz : Int) by omega]
        exact p4
      have HXX : Hid (∀ W, Below w.heap.size w W → Calls Tryz.prog 13 #[.agg #[.int .i64 ma, .int .i64 mi, .slice qe lk je], .slice (some ⟨b, off, none⟩) l.length cap, .int .i64 k] W fun e w' => e = .returned (.tuple #[.string R.1, .int .i64 R.2]) ∧ Below W.heap.size W w') := HX
      have hSn : S.size ≤ 64 * n := by omega
      have d0 := K3.cell 0
      have d1 := K3.cell 1
      have d2 := K3.cell 2
      have hk3 := K3.lt
      simp at d0 d1 d2
      obtain ⟨R1, R2⟩ := R
      dsimp only at HXX HR HIX
      clear hcells hx hLx HX HM HAC HAN HIS HSZ HCC p4 HO2 K3 hn he p1
      have hkl : (k : Int) < (l.length : Int) := by omega
      go_wp2_with fail
      refine (HXX.out _ B').mono ?_
      rintro e2 w7 ⟨rfl, b7⟩
      have E7 := B.trans (b7.mono (by have := B.size; simp at this; omega))
      have F7 := B'.trans (b7.mono B'.size)
      clear HXX d0 d1 d2
      by_cases hq : R2 = 0
      · subst hq
        obtain ⟨F, HFF⟩ : ∃ F, Hid (fillTo S (64 * n) = F) := ⟨fillTo S (64 * n), (rfl : fillTo S (64 * n) = fillTo S (64 * n))⟩
        have HR2 : Hid (AF ⟨#[]⟩ L = AF (F ++ R1) (L.drop (k + 1))) := by
          show AF ⟨#[]⟩ L = _
          rw [HR.out, ← HFF.out]; rfl
        have hFn : F.size = 64 * n := by rw [← HFF.out]; exact fillTo_size hSn
        have hR1 : R1.size = 64 * zz := HIX.out rfl
        have HS2 : Hid (∃ e : Nat, (F ++ R1).size ≤ 64 * e ∧ okPl e (L.drop (k + 1))) := by
          refine ⟨n + zz, ?_, HP4.out⟩
          rw [ByteArray.size_append, hFn, hR1]
          omega
        clear HR HIX HP4
        have i1 : IntKind.i64.wrap (64 * (n : Int)) = ((64 * n : Nat) : Int) := by rw [i64_is]; unfold wrap64; omega
        go_wp2_with fail
        go_loopw [6] (fun f wi => ∃ (S2 : ByteArray), f = .string S2 ∧ Hid (S2.size ≤ 64 * n ∧ fillTo S2 (64 * n) = F) ∧ Below w7.heap.size w7 wi) (fun f _ => 64 * n - sizeV f)
        case atStart => exact ⟨S, rfl, (⟨hSn, HFF.out⟩ : S.size ≤ 64 * n ∧ fillTo S (64 * n) = F), Below.refl _ _⟩
        case round =>
          obtain ⟨S2, rfl, HS3, BI⟩ := hrel
          have BW := F7.trans (BI.mono F7.size)
          have EW := E7.trans (BI.mono (by have := E7.size; simp at this; omega))
          obtain ⟨a1, a3⟩ := HS3.out
          have c7 := (BW.cell (p := ⟨b, off + k * 8 + 7, none⟩) hbn).trans c7'
          clear c7' HS3
          by_cases hS : S2.size = 64 * n
          · have hFS : F = S2 := by rw [← a3, fillTo_done (by omega)]
            have hz4 : zz ≤ 16 := by omega
            clear a3
            subst hFS
            have hno : ¬ ((F.size : Int) < ((64 * n : Nat) : Int)) := by omega
            have hbig : ¬ (9223372036854775807 < F.size + R1.size) := by omega
            go_wp2
            exact ⟨⟨k + 1, F ++ R1, by omega, by go_num, rfl, HS2, HR2, EW⟩, by simp [intOf]; omega⟩
          · have hyes : (S2.size : Int) < ((64 * n : Nat) : Int) := by omega
            have HS4 : Hid ((S2 ++ ⟨#[255]⟩).size ≤ 64 * n ∧ fillTo (S2 ++ ⟨#[255]⟩) (64 * n) = F) := by
              have h1 : (S2 ++ ⟨#[255]⟩).size = S2.size + 1 := by rw [ByteArray.size_append]; rfl
              exact ⟨by omega, by rw [fillTo_step (by omega), a3]⟩
            have hbig : ¬ (9223372036854775807 < S2.size + ByteArray.size ⟨#[255]⟩) := by
              have : ByteArray.size ⟨#[255]⟩ = 1 := rfl
              omega
            clear a3
            go_wp2
            refine ⟨⟨S2 ++ ⟨#[255]⟩, rfl, HS4, BI⟩, ?_⟩
            have h1 : (S2 ++ ⟨#[255]⟩).size = S2.size + 1 := by rw [ByteArray.size_append]; rfl
            show 64 * n - (S2 ++ ⟨#[255]⟩).size < 64 * n - S2.size
            omega
      · have hq' : (R2 != 0) = true := by simpa using hq
        have HR2 : Hid (AF ⟨#[]⟩ L = (⟨#[]⟩, R2)) := by
          show AF ⟨#[]⟩ L = _
          rw [HR.out, if_pos hq]
        clear HR hq HIX
        go_wp2
        go_ret2
        exact ⟨by rw [HR2.out]; rfl, F7⟩
    · obtain rfl : k = l.length := by omega
      obtain ⟨F, HFF⟩ : ∃ F, Hid (fillTo S 1024 = F) := ⟨fillTo S 1024, (rfl : fillTo S 1024 = fillTo S 1024)⟩
      have HZ : Hid (AF ⟨#[]⟩ L = (F, 0)) := by
        show AF ⟨#[]⟩ L = (F, 0)
        rw [HCC.out, show L.drop l.length = [] from by rw [← hLL, ← List.length_map (f := PV.plc)]; exact List.drop_length, HAN.out, HFF.out]
      have hS1 : S.size ≤ 1024 := by
        obtain ⟨e, he, hpl⟩ := HSZ.out
        have := okPl_end hpl
        omega
      clear HSZ HCC HM HAC HAN HIS HO2
      go_wp2_with fail
      go_loopw [6] (fun f wi => ∃ (S2 : ByteArray), f = .string S2 ∧ Hid (S2.size ≤ 1024 ∧ fillTo S2 1024 = F) ∧ Below wr.heap.size wr wi) (fun f _ => 1024 - sizeV f)
      case atStart => exact ⟨S, rfl, (⟨hS1, HFF.out⟩ : S.size ≤ 1024 ∧ fillTo S 1024 = F), Below.refl _ _⟩
      case round =>
        obtain ⟨S2, rfl, HS3, BI⟩ := hrel
        have BW := B'.trans (BI.mono B'.size)
        obtain ⟨a1, a3⟩ := HS3.out
        clear HS3
        by_cases hS : S2.size = 1024
        · have hFS : F = S2 := by rw [← a3, fillTo_done (by omega)]
          have HFS : Hid (F = S2) := hFS
          clear a3 hFS
          have hno : ¬ ((S2.size : Int) < 1024) := by omega
          go_wp2
          go_ret2
          exact ⟨by rw [HZ.out, HFS.out]; rfl, BW⟩
        · have hyes : (S2.size : Int) < 1024 := by omega
          have HS4 : Hid ((S2 ++ ⟨#[255]⟩).size ≤ 1024 ∧ fillTo (S2 ++ ⟨#[255]⟩) 1024 = F) := by
            have h1 : (S2 ++ ⟨#[255]⟩).size = S2.size + 1 := by rw [ByteArray.size_append]; rfl
            exact ⟨by omega, by rw [fillTo_step (by omega), a3]⟩
          have hbig : ¬ (9223372036854775807 < S2.size + ByteArray.size ⟨#[255]⟩) := by
            have : ByteArray.size ⟨#[255]⟩ = 1 := rfl
            omega
          clear a3
          go_wp2
          refine ⟨⟨S2 ++ ⟨#[255]⟩, rfl, HS4, BI⟩, ?_⟩
          have h1 : (S2 ++ ⟨#[255]⟩).size = S2.size + 1 := by rw [ByteArray.size_append]; rfl
          show 1024 - (S2 ++ ⟨#[255]⟩).size < 1024 - S2.size
          omega

end Go.Proofs.YtppmihnbpmkbnadGreat

/- The modules lib and app of the statements. -/
namespace Go.Proofs.YtppmihnbpmkbnadGreat
open Go.RowKit Go.PlainAid Go.Lib

def libM : Mod := ⟨⟨#[108, 105, 98]⟩, 1, 2, ⟨#[97, 98, 99, 100, 101, 102, 103, 104]⟩, [⟨⟨#[102]⟩, 4⟩], [], []⟩
def appM : Mod := ⟨⟨#[97, 112, 112]⟩, 0, 0, ⟨#[46, 46, 46, 46, 46, 46, 46, 46]⟩, [], [⟨⟨#[108, 105, 98]⟩, ⟨#[102]⟩, 1, 1⟩, ⟨⟨#[107, 101, 114, 110, 101, 108]⟩, ⟨#[107]⟩, 0, 0⟩], [⟨1, 0, 0, 1⟩, ⟨5, 4, 1, 0⟩]⟩
theorem chk_lib : chkMod libM = 0 := by kernel_rfl
theorem chk_app : chkMod appM = 0 := by kernel_rfl

set_option maxHeartbeats 1000000 in
theorem lib_any (w : World) : Calls Tryz.prog 57 #[] w fun e w' => ∃ pe ke, e = .returned (.agg #[.string ⟨#[108, 105, 98]⟩, .int .i64 1, .int .i64 2, .string ⟨#[97, 98, 99, 100, 101, 102, 103, 104]⟩, .slice pe 1 ke, .slice none 0 0, .slice none 0 0]) ∧ IsMod w'.heap.size w' (.agg #[.string ⟨#[108, 105, 98]⟩, .int .i64 1, .int .i64 2, .string ⟨#[97, 98, 99, 100, 101, 102, 103, 104]⟩, .slice pe 1 ke, .slice none 0 0, .slice none 0 0]) libM ∧ Below w.heap.size w w' := by
  go_enter Tryz.func57, Tryz.ntmps57
  go_wp2
  (try simp only [Exit.inBlock, Exit.then])
  refine bodyPost_ret (results_cell_row rfl _ _ _ _ _ _ _ rfl (CellsAt.kept (CellsAt.new w _ _) (World.grownBy_alloc _ _ none) (by simp)) Tryz.underlying39 rfl (by kernel_rfl)) rfl ?_
  refine ⟨_, _, rfl, ⟨_, _, _, rfl, ?_, ⟨_, _, rfl, by decide, .inl rfl⟩, ⟨_, _, rfl, by decide, .inl rfl⟩⟩, ((Below.refl _ _).alloc (Nat.le_refl _) _).alloc (by simp) _⟩
  have c := CellsAt.new (w.alloc (.cells #[.string ⟨#[108, 105, 98]⟩, .int .i64 1, .int .i64 2, .string ⟨#[97, 98, 99, 100, 101, 102, 103, 104]⟩, .slice (some ⟨w.heap.size + 1, 0, none⟩) 1 1, .slice none 0 0, .slice none 0 0] 39)) 120 #[.string ⟨#[102]⟩, .int .i64 4]
  rw [World.size_alloc] at c
  exact rowOf_cells (C := expC) (cells := Exp.cell) (sz := 2) (fun _ => rfl) expC_at c libM.exps (by decide) 1 rfl

set_option maxHeartbeats 1000000 in
theorem app_any (w : World) : Calls Tryz.prog 52 #[] w fun e w' => ∃ v, e = .returned v ∧ IsMod w'.heap.size w' v appM ∧ Below w.heap.size w w' := by
  go_enter Tryz.func52, Tryz.ntmps52
  go_wp2
  (try simp only [Exit.inBlock, Exit.then])
  refine bodyPost_ret (results_cell_row rfl _ _ _ _ _ _ _ rfl (CellsAt.kept (CellsAt.kept (CellsAt.new w _ _) (World.grownBy_alloc _ _ none) (by simp)) (World.grownBy_alloc _ _ none) (by simp)) Tryz.underlying39 rfl (by kernel_rfl)) rfl ?_
  generalize hA : w.alloc (.cells #[.string ⟨#[97, 112, 112]⟩, .int .i64 0, .int .i64 0, .string ⟨#[46, 46, 46, 46, 46, 46, 46, 46]⟩, .slice none 0 0, .slice (some ⟨w.heap.size + 1, 0, none⟩) 2 2, .slice (some ⟨w.heap.size + 1 + 1, 0, none⟩) 2 2] 39) = wa
  have hz : wa.heap.size = w.heap.size + 1 := by rw [← hA]; simp
  have B1 : Below w.heap.size w wa := by rw [← hA]; exact (Below.refl _ _).alloc (Nat.le_refl _) _
  clear hA
  have c1 := CellsAt.new wa 84 #[.string ⟨#[108, 105, 98]⟩, .string ⟨#[102]⟩, .int .i64 1, .int .i64 1, .string ⟨#[107, 101, 114, 110, 101, 108]⟩, .string ⟨#[107]⟩, .int .i64 0, .int .i64 0]
  have c2 := CellsAt.new (wa.alloc (.cells #[.string ⟨#[108, 105, 98]⟩, .string ⟨#[102]⟩, .int .i64 1, .int .i64 1, .string ⟨#[107, 101, 114, 110, 101, 108]⟩, .string ⟨#[107]⟩, .int .i64 0, .int .i64 0] 84)) 43 #[.int .i64 1, .int .i64 0, .int .i64 0, .int .i64 1, .int .i64 5, .int .i64 4, .int .i64 1, .int .i64 0]
  have c1' := c1.kept (World.grownBy_alloc _ (.cells #[.int .i64 1, .int .i64 0, .int .i64 0, .int .i64 1, .int .i64 5, .int .i64 4, .int .i64 1, .int .i64 0] 43) none) (by simp)
  rw [hz] at c1'
  rw [World.size_alloc, hz] at c2
  refine ⟨_, rfl, ⟨_, _, _, rfl, ⟨_, _, rfl, by decide, .inl rfl⟩, ?_, ?_⟩, (B1.alloc (by omega) _).alloc (by simp; omega) _⟩
  · exact rowOf_cells (C := impC) (cells := Imp.cell) (sz := 4) (fun _ => rfl) impC_at c1' appM.imps (by decide) 2 rfl
  · exact rowOf_cells (C := patC) (cells := Pat.cell) (sz := 4) (fun _ => rfl) patC_at c2 appM.pats (by decide) 2 rfl

end Go.Proofs.YtppmihnbpmkbnadGreat

/- The placed modules of the statements. -/
namespace Go.Proofs.YtppmihnbpmkbnadGreat
open Go.RowKit Go.PlainAid

set_option maxRecDepth 100000

def pairL : List Plc := [⟨appM, 1⟩, ⟨libM, 4⟩]
theorem fits_app : appM.fits := by
  refine ⟨by decide, by decide, fun e he => by simp [appM] at he, fun i hi => ?_⟩
  have : i = ⟨⟨#[108, 105, 98]⟩, ⟨#[102]⟩, 1, 1⟩ ∨ i = ⟨⟨#[107, 101, 114, 110, 101, 108]⟩, ⟨#[107]⟩, 0, 0⟩ := by simpa [appM] using hi
  rcases this with rfl | rfl <;> exact ⟨by decide, by decide⟩
theorem fits_lib : libM.fits := by
  refine ⟨by decide, by decide, fun e he => ?_, fun i hi => by simp [libM] at hi⟩
  have : e = ⟨⟨#[102]⟩, 4⟩ := by simpa [libM] using he
  subst this
  decide

def pvC (x : PV) : List Value := [.string x.mod.name, .int .i64 x.mod.major, .int .i64 x.mod.minor, .string x.mod.text, x.ve, x.vi, x.vp, .int .i64 x.first]
theorem pvC_at (x : PV) (i : Nat) (hi : i < 8) : (pvC x)[i]? = some (PV.cell x i) := by
  have : i = 0 ∨ i = 1 ∨ i = 2 ∨ i = 3 ∨ i = 4 ∨ i = 5 ∨ i = 6 ∨ i = 7 := by omega
  rcases this with rfl | rfl | rfl | rfl | rfl | rfl | rfl | rfl <;> rfl
theorem mod_rows {n₀ : Nat} {W : World} {N T : ByteArray} {a b : Int} {ve vi vp : Value} {M : Mod} (h : IsMod n₀ W (.agg #[.string N, .int .i64 a, .int .i64 b, .string T, ve, vi, vp]) M) : RowOf 2 Exp.cell n₀ W ve M.exps ∧ RowOf 4 Imp.cell n₀ W vi M.imps ∧ RowOf 4 Pat.cell n₀ W vp M.pats := by
  obtain ⟨ve', vi', vp', e, h1, h2, h3⟩ := h
  injection e with e
  have e2 := congrArg Array.toList e
  simp at e2
  obtain ⟨_, _, _, _, rfl, rfl, rfl⟩ := e2
  exact ⟨h1, h2, h3⟩

set_option maxHeartbeats 2000000 in
theorem pair_any (w : World) : Calls Tryz.prog 44 #[] w fun e w' => ∃ v l, e = .returned v ∧ l.map PV.plc = pairL ∧ IsPlcs w'.heap.size w' v l ∧ Below w.heap.size w w' := by
  go_enter Tryz.func44, Tryz.ntmps44
  go_wp2_with fail
  refine (app_any _).mono ?_
  rintro e w1 ⟨v1, rfl, hA, b1⟩
  obtain ⟨ve, vi, vp, rfl, hE, hI, hP⟩ := hA
  have hAE := hE
  have hAI := hI
  have hAP := hP
  obtain ⟨ae, ce, rfl, _, _⟩ := hE
  obtain ⟨ai, ci, rfl, _, _⟩ := hI
  obtain ⟨ap, cp, rfl, _, _⟩ := hP
  dsimp only [appM]
  go_wp2_with fail
  refine (lib_any _).mono ?_
  rintro e w2 ⟨pe, ke, rfl, hL, b2⟩
  obtain ⟨l1, l2, l3⟩ := mod_rows hL
  have B2 := b1.trans (b2.mono b1.size)
  clear b1 hL
  go_wp2
  go_ret
  refine ⟨_, [⟨appM, .slice ae 0 ce, .slice ai 2 ci, .slice ap 2 cp, 1⟩, ⟨libM, .slice pe 1 ke, .slice none 0 0, .slice none 0 0, 4⟩], rfl, rfl, ⟨?_, ?_⟩, B2.alloc B2.size _⟩
  · exact rowOf_cells (C := pvC) (cells := PV.cell) (sz := 8) (fun _ => rfl) pvC_at (CellsAt.new w2 41 _) [⟨appM, .slice ae 0 ce, .slice ai 2 ci, .slice ap 2 cp, 1⟩, ⟨libM, .slice pe 1 ke, .slice none 0 0, .slice none 0 0, 4⟩] (show 2 ≤ 255 by decide) 2 rfl
  · intro x hx
    have : x = ⟨appM, .slice ae 0 ce, .slice ai 2 ci, .slice ap 2 cp, 1⟩ ∨ x = ⟨libM, .slice pe 1 ke, .slice none 0 0, .slice none 0 0, 4⟩ := by simpa using hx
    have hb : ∀ o, Below w2.heap.size w2 (w2.alloc o) := fun o => (Below.refl _ _).alloc (Nat.le_refl _) o
    have hbb : ∀ o, Below w1.heap.size w1 (w2.alloc o) := fun o => b2.trans ((hb o).mono b2.size)
    rcases this with rfl | rfl
    · exact ⟨(hAE.below (hbb _)).more (hbb _).size, (hAI.below (hbb _)).more (hbb _).size, (hAP.below (hbb _)).more (hbb _).size⟩
    · exact ⟨(l1.below (hb _)).more (hb _).size, (l2.below (hb _)).more (hb _).size, (l3.below (hb _)).more (hb _).size⟩

theorem pair_fits {l : List PV} (h : l.map PV.plc = pairL) : ∀ x ∈ l, x.mod.fits := by
  intro x hx
  have : x.plc ∈ pairL := by rw [← h]; exact List.mem_map_of_mem hx
  have h2 : x.plc = ⟨appM, 1⟩ ∨ x.plc = ⟨libM, 4⟩ := by simpa [pairL] using this
  rcases h2 with h2 | h2
  · have e : x.mod = appM := congrArg Plc.mod h2
    rw [e]; exact fits_app
  · have e : x.mod = libM := congrArg Plc.mod h2
    rw [e]; exact fits_lib

theorem pv_one {n₀ : Nat} {W : World} {x : PV} (h : PlcAt n₀ W x) : ∀ u ∈ pvC x, u.oneCell' = true := by
  obtain ⟨⟨pe, ke, e4, _⟩, ⟨pi, ki, e5, _⟩, ⟨pp, kp, e6, _⟩⟩ := h
  intro u hu
  unfold pvC at hu
  rw [e4, e5, e6] at hu
  simp at hu
  rcases hu with rfl | rfl | rfl | rfl | rfl | rfl | rfl | rfl <;> rfl
theorem pvs_one {n₀ : Nat} {W : World} {l : List PV} (h : ∀ x ∈ l, PlcAt n₀ W x) : ∀ u ∈ l.flatMap pvC, u.oneCell' = true := by
  intro u hu
  obtain ⟨x, hx, hux⟩ := List.mem_flatMap.1 hu
  exact pv_one (h x hx) u hux

theorem infoPlc : (Tryz.prog.info? 41).map (fun i => (i.zero, i.size, i.bytes)) = some (some (.agg #[.string ⟨#[]⟩, .int .i64 0, .int .i64 0, .string ⟨#[]⟩, .slice none 0 0, .slice none 0 0, .slice none 0 0, .int .i64 0]), 8, 128) := by kernel_rfl
theorem infoPlc_parts : ∃ i, Tryz.prog.info? 41 = some i ∧ i.zero = some (.agg #[.string ⟨#[]⟩, .int .i64 0, .int .i64 0, .string ⟨#[]⟩, .slice none 0 0, .slice none 0 0, .slice none 0 0, .int .i64 0]) ∧ i.size = 8 ∧ i.bytes = 128 := by
  have h := infoPlc
  cases hi : Tryz.prog.info? 41 with
  | none => rw [hi] at h; cases h
  | some i =>
    rw [hi] at h
    simp at h
    exact ⟨i, rfl, h.1, h.2.1, h.2.2⟩

end Go.Proofs.YtppmihnbpmkbnadGreat

/- The contracts of the statements' kernel, pair, and of the document's SameInts. -/
namespace Go.Proofs.YtppmihnbpmkbnadGreat
open Go.RowKit Go.PlainAid

set_option maxRecDepth 100000

def kernK : Ker := ⟨0, 0, [⟨⟨#[107]⟩, 2⟩]⟩
theorem kern_fits : kernK.fits := by
  intro e he
  have : e = ⟨⟨#[107]⟩, 2⟩ := by simpa [kernK] using he
  subst this
  decide
set_option maxHeartbeats 1000000 in
theorem kernelFn_any (w : World) : Calls Tryz.prog 43 #[] w fun e w' => ∃ v, e = .returned v ∧ IsKer w'.heap.size w' v kernK ∧ Below w.heap.size w w' := by
  go_enter Tryz.func43, Tryz.ntmps43
  go_wp2
  (try simp only [Exit.inBlock, Exit.then])
  have hF : CellsAt ((w.alloc (.cells #[.int .i64 0, .int .i64 0, .slice (some ⟨w.heap.size + 1, 0, none⟩) 1 1] 24)).alloc (.cells #[.string ⟨#[107]⟩, .int .i64 2] 120)) w.heap.size 24 #[.int .i64 0, .int .i64 0, .slice (some ⟨w.heap.size + 1, 0, none⟩) 1 1] := CellsAt.kept (CellsAt.new w _ _) (World.grownBy_alloc _ _ none) (by simp)
  refine bodyPost_ret (results_cell_row rfl _ _ _ _ _ _ _ rfl hF Tryz.underlying24 rfl (by kernel_rfl)) rfl ?_
  refine ⟨_, rfl, ⟨_, rfl, ?_⟩, ((Below.refl _ _).alloc (Nat.le_refl _) _).alloc (by simp) _⟩
  have c := CellsAt.new (w.alloc (.cells #[.int .i64 0, .int .i64 0, .slice (some ⟨w.heap.size + 1, 0, none⟩) 1 1] 24)) 120 #[.string ⟨#[107]⟩, .int .i64 2]
  rw [World.size_alloc] at c
  exact rowOf_cells (C := expC) (cells := Exp.cell) (sz := 2) (fun _ => rfl) expC_at c kernK.exps (by decide) 1 rfl

set_option maxHeartbeats 1000000 in
theorem sameInts_yes (l : List Int) (v1 v2 : Value) (w : World) (h1 : RowOf 1 intCell w.heap.size w v1 l) (h2 : RowOf 1 intCell w.heap.size w v2 l) :
    Calls Tryz.prog 53 #[v1, v2] w fun e w' => e = .returned (.bool true) ∧ Below w.heap.size w w' := by
  obtain ⟨a1, c1, rfl, hl, h1⟩ := h1
  obtain ⟨a2, c2, rfl, _, h2⟩ := h2
  go_enter Tryz.func53, Tryz.ntmps53
  go_wp2
  go_loopw [5] (fun i wr => ∃ (k : Nat), k ≤ l.length ∧ i = .int .i64 k ∧ Below w.heap.size w wr) (fun i _ => l.length - (intOf i).toNat)
  case atStart => exact ⟨0, Nat.zero_le _, rfl, Below.refl _ _⟩
  case round =>
    obtain ⟨k, hk, rfl, B⟩ := hrel
    by_cases hlt : k < l.length
    · obtain ⟨x, hx⟩ : ∃ x, l[k]? = some x := ⟨_, List.getElem?_eq_getElem hlt⟩
      rcases h1 with h | ⟨b1, o1, rfl, hb1, hc1⟩
      · subst h; simp at hlt
      rcases h2 with h | ⟨b2, o2, rfl, hb2, hc2⟩
      · subst h; simp at hlt
      have d1 : wr.cell? ⟨b1, o1 + k, none⟩ = some (.int .i64 x) := by
        have := (B.cell (p := ⟨b1, o1 + k * 1 + 0, none⟩) hb1).trans (hc1 k _ hx 0 (by omega))
        rw [Nat.mul_one] at this
        exact this
      have d2 : wr.cell? ⟨b2, o2 + k, none⟩ = some (.int .i64 x) := by
        have := (B.cell (p := ⟨b2, o2 + k * 1 + 0, none⟩) hb2).trans (hc2 k _ hx 0 (by omega))
        rw [Nat.mul_one] at this
        exact this
      have hne : (x != x) = false := by simp
      clear hc1 hc2 hx
      go_wp2
      go_quiet (fail)
      all_goals go_wp2
      exact ⟨⟨k + 1, by omega, by go_num, below_drewN B _⟩, by simp [intOf]; omega⟩
    · obtain rfl : k = l.length := by omega
      go_wp2
      go_ret
      exact ⟨rfl, B⟩

end Go.Proofs.YtppmihnbpmkbnadGreat
