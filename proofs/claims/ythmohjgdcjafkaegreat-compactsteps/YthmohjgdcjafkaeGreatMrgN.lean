/- Texts that are laid together. -/
import Derived.Test.YthmohjgdcjafkaeGreatMrgM
import Derived.Test.YthmohjgdcjafkaeGreatMrgI
import Derived.Test.YthmohjgdcjafkaeGreatMrgJ
import Derived.Test.YthmohjgdcjafkaeGreatMrgE
import Derived.Test.YthmohjgdcjafkaeGreatMrgC
import Derived.Test.YthmohjgdcjafkaeGreatMrgG
import Derived.Shelf.RegionOpenPlain
import Derived.Lib.SliceRun
import Derived.Lib.Walk

/- The contracts of link.Image and link.Area. -/
namespace Go.Proofs.YthmohjgdcjafkaeGreat
open Go.RowKit Go.PlainAid

set_option maxRecDepth 100000

theorem find_plc (name : ByteArray) (l : List PV) : (l.map PV.plc).find? (fun p => p.mod.name == name) = (l.find? fun x : PV => x.mod.name == name).map PV.plc := by
  rw [List.find?_map]; rfl

/-- Image, case by case. -/
theorem imageOf_cases (K : Ker) (l : List PV) (name : ByteArray) :
    (chkLink K (l.map PV.plc) ≠ 0 ∧ imageOf K (l.map PV.plc) name = (⟨#[]⟩, chkLink K (l.map PV.plc))) ∨
    (chkLink K (l.map PV.plc) = 0 ∧ ixFrom (fun x : PV => x.mod.name == name) 0 l = -1 ∧ imageOf K (l.map PV.plc) name = (⟨#[]⟩, 5)) ∨
    (chkLink K (l.map PV.plc) = 0 ∧ ∃ (j : Nat) (x : PV), l[j]? = some x ∧ ixFrom (fun x : PV => x.mod.name == name) 0 l = (j : Int) ∧ imageOf K (l.map PV.plc) name = imgRes K (l.map PV.plc) x.plc) := by
  by_cases h : chkLink K (l.map PV.plc) = 0
  · rcases ix_find (fun x : PV => x.mod.name == name) l 0 with ⟨h1, h2⟩ | ⟨j, x, h1, h2, h3⟩
    · refine .inr (.inl ⟨h, h2, ?_⟩)
      unfold imageOf
      rw [if_neg (by omega), find_plc, h1]
      rfl
    · refine .inr (.inr ⟨h, j, x, h2, by simpa using h3, ?_⟩)
      unfold imageOf
      rw [if_neg (by omega), find_plc, h1]
      rfl
  · refine .inl ⟨h, ?_⟩
    unfold imageOf
    rw [if_pos h]

theorem link_at {K : Ker} {l : List PV} (h : chkLink K (l.map PV.plc) = 0) {x : PV} (hx : x ∈ l) : chkMod x.mod = 0 ∧ 0 ≤ x.first ∧ x.first + szM x.mod ≤ 16 ∧ 1 ≤ szM x.mod := by
  obtain ⟨_, h2, h3⟩ := chkReg_zero.1 (chkLink_zero h).2.1
  have h4 := okPl_first h3 x.plc (List.mem_map.2 ⟨x, hx, rfl⟩)
  exact ⟨h2 x.plc (List.mem_map.2 ⟨x, hx, rfl⟩), h4.1, h4.2.2, h4.2.1⟩

/-- What Area has while it goes on. -/
theorem area_step {K : Ker} {L : List Plc} {s : ByteArray} {p : Plc} {r : List Plc} : areaFrom K L s (p :: r) = if (imgRes K L p).2 ≠ 0 then (⟨#[]⟩, (imgRes K L p).2) else areaFrom K L (fillTo s (64 * p.first.toNat) ++ (imgRes K L p).1) r := rfl
set_option maxHeartbeats 4000000 in
theorem linkArea_any (K : Ker) (vk : Value) (l : List PV) (v : Value) (w : World) (hK : IsKer w.heap.size w vk K) (hf : K.fits) (hrow : IsPlcs w.heap.size w v l) (hfit : ∀ x ∈ l, x.mod.fits) :
    Calls Tryz.prog 58 #[vk, v] w fun e w' => e = .returned (.tuple #[.string (areaOf K (l.map PV.plc)).1, .int .i64 (areaOf K (l.map PV.plc)).2]) ∧ Below w.heap.size w w' := by
  have HW : Hid (∀ W, Below w.heap.size w W → Calls Tryz.prog 103 #[vk, v] W fun e w' => e = .returned (.int .i64 (chkLink K (l.map PV.plc))) ∧ Below W.heap.size W w') := fun W hb => lnWrong_any K vk l v W ((hK.below hb).more hb.size) hf ((hrow.below hb).more hb.size) hfit
  have HM : Hid (chkLink K (l.map PV.plc) = 0 → ∀ x ∈ l, ∀ W, Below w.heap.size w W → Calls Tryz.prog 104 #[vk, v, x.val] W fun e w' => e = .returned (.tuple #[.string (imgRes K (l.map PV.plc) x.plc).1, .int .i64 (imgRes K (l.map PV.plc) x.plc).2]) ∧ Below W.heap.size W w') := fun h0 x hx W hb =>
    lnOne_any K vk l v x W ((hK.below hb).more hb.size) hf ((hrow.below hb).more hb.size) hfit (((hrow.2 x hx).below hb).more hb.size) (hfit x hx) (link_at h0 hx).1 (link_at h0 hx).2.1 (by have := link_at h0 hx; omega)
  have HOK : Hid (chkLink K (l.map PV.plc) = 0 → okPl 0 (l.map PV.plc) ∧ l.length ≤ 8) := fun h => by
    have := chkReg_zero.1 (chkLink_zero h).2.1
    exact ⟨this.2.2, by simpa using this.1⟩
  have HIS : Hid (∀ p, (imgRes K (l.map PV.plc) p).2 = 0 → (imgRes K (l.map PV.plc) p).1.size = 64 * szM p.mod) := fun p h => imgRes_size h
  have key : (chkLink K (l.map PV.plc) ≠ 0 ∧ areaOf K (l.map PV.plc) = (⟨#[]⟩, chkLink K (l.map PV.plc))) ∨ (chkLink K (l.map PV.plc) = 0 ∧ areaOf K (l.map PV.plc) = areaFrom K (l.map PV.plc) ⟨#[]⟩ (l.map PV.plc)) := by
    unfold areaOf
    by_cases h : chkLink K (l.map PV.plc) = 0
    · exact .inr ⟨h, by rw [if_neg (by omega)]⟩
    · exact .inl ⟨h, by rw [if_pos h]⟩
  have hat := hrow.2
  obtain ⟨vke, rfl, hE⟩ := hK
  obtain ⟨qe, je, rfl, _, _⟩ := hE
  obtain ⟨⟨a, cap, rfl, hmax, hrow⟩, _⟩ := hrow
  generalize areaOf K (l.map PV.plc) = R at *
  generalize chkLink K (l.map PV.plc) = cl at *
  have HAC : Hid (∀ s p r, areaFrom K (l.map PV.plc) s (p :: r) = if (imgRes K (l.map PV.plc) p).2 ≠ 0 then (⟨#[]⟩, (imgRes K (l.map PV.plc) p).2) else areaFrom K (l.map PV.plc) (fillTo s (64 * p.first.toNat) ++ (imgRes K (l.map PV.plc) p).1) r) := fun _ _ _ => rfl
  have HAN : Hid (∀ s, areaFrom K (l.map PV.plc) s [] = (fillTo s 1024, 0)) := fun _ => rfl
  generalize areaFrom K (l.map PV.plc) = AF at *
  generalize hLL : l.map PV.plc = L at *
  generalize imgRes K L = IR at *
  obtain ⟨ma, mi, ks⟩ := K
  dsimp only at *
  clear hf hfit
  generalize ks.length = lk at *
  have B1 : Below w.heap.size w (w.alloc (.cells #[.int .i64 ma, .int .i64 mi, .slice qe lk je] 24)) := (Below.refl _ _).alloc (Nat.le_refl _) _
  have K1 : CellsAt (w.alloc (.cells #[.int .i64 ma, .int .i64 mi, .slice qe lk je] 24)) w.heap.size 24 #[.int .i64 ma, .int .i64 mi, .slice qe lk je] := CellsAt.new w 24 #[.int .i64 ma, .int .i64 mi, .slice qe lk je]
  go_enter Tryz.func58, Tryz.ntmps58
  go_wp2_with fail
  refine (HW.out _ B1).mono ?_
  rintro e w2 ⟨rfl, b2⟩
  have B2 := B1.trans (b2.mono B1.size)
  have K2 := K1.below b2 K1.lt
  clear b2 K1 B1 HW
  rcases key with ⟨h0, rfl⟩ | ⟨rfl, rfl⟩
  · have h0' : (cl != 0) = true := by simpa using h0
    clear h0 HM
    go_wp2
    go_ret2
    exact ⟨rfl, B2⟩
  · have HMM : Hid (∀ x ∈ l, ∀ W, Below w.heap.size w W → Calls Tryz.prog 104 #[.agg #[.int .i64 ma, .int .i64 mi, .slice qe lk je], .slice a l.length cap, x.val] W fun e w' => e = .returned (.tuple #[.string (IR x.plc).1, .int .i64 (IR x.plc).2]) ∧ Below W.heap.size W w') := HM.out (by first | rfl | trivial)
    obtain ⟨hok, h8⟩ := HOK.out (by first | rfl | trivial)
    have HO2 : Hid (okPl 0 L) := hok
    clear HM HOK hok
    go_wp2_with fail
    go_loopw [7, 20] (fun f i wr => ∃ (k : Nat) (S : ByteArray), k ≤ l.length ∧ i = .int .i64 k ∧ f = .string S ∧ Hid (∃ e : Nat, S.size ≤ 64 * e ∧ okPl e (L.drop k)) ∧ Hid (AF ⟨#[]⟩ L = AF S (L.drop k)) ∧ Below w2.heap.size w2 wr) (fun _ i _ => l.length - (intOf i).toNat)
    case atStart => exact ⟨0, ⟨#[]⟩, Nat.zero_le _, rfl, rfl, (⟨0, Nat.le_refl _, HO2.out⟩ : ∃ e : Nat, (⟨#[]⟩ : ByteArray).size ≤ 64 * e ∧ okPl e (L.drop 0)), (by show AF ⟨#[]⟩ L = AF ⟨#[]⟩ (L.drop 0); rfl), Below.refl _ _⟩
    case round =>
      obtain ⟨k, S, hk, rfl, rfl, HSZ, HCC, B⟩ := hrel
      have B' : Below w.heap.size w wr := B2.trans (B.mono B2.size)
      by_cases hlt : k < l.length
      · obtain ⟨x, hx⟩ : ∃ x, l[k]? = some x := ⟨_, List.getElem?_eq_getElem hlt⟩
        have hLx : L[k]? = some x.plc := by rw [← hLL, List.getElem?_map, hx]; rfl
        rcases hrow with h | ⟨b, off, rfl, hbn, hcells⟩
        · subst h; simp at hlt
        have HR : Hid (AF ⟨#[]⟩ L = if (IR x.plc).2 ≠ 0 then (⟨#[]⟩, (IR x.plc).2) else AF (fillTo S (64 * x.first.toNat) ++ (IR x.plc).1) (L.drop (k + 1))) := by
          show AF ⟨#[]⟩ L = _
          rw [HCC.out, drop_at hLx, HAC.out]
          rfl
        obtain ⟨e, he, hpl⟩ := HSZ.out
        rw [drop_at hLx] at hpl
        obtain ⟨p1, p2, p3, p4⟩ := hpl
        change (e : Int) ≤ x.first at p1
        change 1 ≤ szM x.mod at p2
        change x.first + (szM x.mod : Int) ≤ 16 at p3
        change okPl (x.first + (szM x.mod : Int)) (L.drop (k + 1)) at p4
        have HIX : Hid ((IR x.plc).2 = 0 → (IR x.plc).1.size = 64 * szM x.mod) := HIS.out x.plc
        obtain ⟨n, hn⟩ : ∃ n : Nat, x.first = n := ⟨x.first.toNat, by omega⟩
        have HX := HMM.out x (List.mem_of_getElem? hx)
        obtain ⟨R, HRR⟩ : ∃ R, Hid (IR x.plc = R) := ⟨IR x.plc, (rfl : IR x.plc = IR x.plc)⟩
        rw [HRR.out] at HX HR HIX
        have c0 := (B'.cell (p := ⟨b, off + k * 8 + 0, none⟩) hbn).trans (hcells k _ hx 0 (by omega))
        have c1 := (B'.cell (p := ⟨b, off + k * 8 + 1, none⟩) hbn).trans (hcells k _ hx 1 (by omega))
        have c2 := (B'.cell (p := ⟨b, off + k * 8 + 2, none⟩) hbn).trans (hcells k _ hx 2 (by omega))
        have c3 := (B'.cell (p := ⟨b, off + k * 8 + 3, none⟩) hbn).trans (hcells k _ hx 3 (by omega))
        have c4 := (B'.cell (p := ⟨b, off + k * 8 + 4, none⟩) hbn).trans (hcells k _ hx 4 (by omega))
        have c5 := (B'.cell (p := ⟨b, off + k * 8 + 5, none⟩) hbn).trans (hcells k _ hx 5 (by omega))
        have c6 := (B'.cell (p := ⟨b, off + k * 8 + 6, none⟩) hbn).trans (hcells k _ hx 6 (by omega))
        have c7 := (B'.cell (p := ⟨b, off + k * 8 + 7, none⟩) hbn).trans (hcells k _ hx 7 (by omega))
        obtain ⟨⟨pe, ke, e4, _⟩, ⟨pi, ki, e5, _⟩, ⟨pp, kp, e6, _⟩⟩ := hat x (List.mem_of_getElem? hx)
        generalize szM x.mod = zz at *
        obtain ⟨⟨N, xa, xi, T, es, is, ps⟩, ve, vi, vp, fi⟩ := x
        dsimp only [PV.val] at *
        subst e4 e5 e6 hn
        dsimp only [PV.cell] at c0 c1 c2 c3 c4 c5 c6 c7
        rw [Nat.add_zero] at c0
        rw [Int.toNat_natCast] at HR
        have HF : Hid (∀ W, Calls Tryz.prog 105 #[.string S, .int .i64 n] W fun e w' => e = .returned (.string (fillTo S (64 * n))) ∧ Below W.heap.size W w') := fun W => filled_any S n W (by omega) (by omega)
        have hfs : Hid ((fillTo S (64 * n)).size = 64 * n) := show (fillTo S (64 * n)).size = 64 * n from fillTo_size (by omega)
        generalize fillTo S (64 * n) = F at *
        generalize es.length = le at *
        generalize is.length = li at *
        generalize ps.length = lp at *
        have K3 := K2.below B K2.lt
        have d0 := K3.cell 0
        have d1 := K3.cell 1
        have d2 := K3.cell 2
        have hk3 := K3.lt
        simp at d0 d1 d2
        have HXX : Hid (∀ W, Below w.heap.size w W → Calls Tryz.prog 104 #[.agg #[.int .i64 ma, .int .i64 mi, .slice qe lk je], .slice (some ⟨b, off, none⟩) l.length cap, .agg #[.string N, .int .i64 xa, .int .i64 xi, .string T, .slice pe le ke, .slice pi li ki, .slice pp lp kp, .int .i64 n]] W fun e w' => e = .returned (.tuple #[.string R.1, .int .i64 R.2]) ∧ Below W.heap.size W w') := HX
        have HB6 : Hid (Below w2.heap.size w2 (wr.alloc (.cells #[.string N, .int .i64 xa, .int .i64 xi, .string T, .slice pe le ke, .slice pi li ki, .slice pp lp kp, .int .i64 n] 54))) := B.alloc B.size _
        have HC6 : Hid (CellsAt (wr.alloc (.cells #[.string N, .int .i64 xa, .int .i64 xi, .string T, .slice pe le ke, .slice pi li ki, .slice pp lp kp, .int .i64 n] 54)) wr.heap.size 54 #[.string N, .int .i64 xa, .int .i64 xi, .string T, .slice pe le ke, .slice pi li ki, .slice pp lp kp, .int .i64 n]) := CellsAt.new wr 54 #[.string N, .int .i64 xa, .int .i64 xi, .string T, .slice pe le ke, .slice pi li ki, .slice pp lp kp, .int .i64 n]
        have HP4 : Hid (okPl ((n + zz : Nat) : Int) (L.drop (k + 1))) := by
          show okPl ((n + zz : Nat) : Int) (L.drop (k + 1))
          rw [show ((n + zz : Nat) : Int) = (n : Int) + (zz : Int) by omega]
          exact p4
        obtain ⟨R1, R2⟩ := R
        dsimp only at HXX HR HIX
        clear hcells hx hLx HX HMM HAC HAN HIS HSZ HCC HRR p4 hat HO2 K3
        go_wp2_with fail
        refine (HXX.out _ (B2.trans (HB6.out.mono B2.size))).mono ?_
        rintro e w7 ⟨rfl, b7⟩
        have E7 := HB6.out.trans (b7.mono HB6.out.size)
        have F7 := B2.trans (E7.mono B2.size)
        have C7 := HC6.out.below b7 HC6.out.lt
        have g7 := C7.cell 7
        have hg7 := C7.lt
        simp at g7
        clear HB6 HC6 HXX c0 c1 c2 c3 c4 c5 c6 c7 d0 d1 d2 b7
        by_cases hq : R2 = 0
        · subst hq
          have HR2 : Hid (AF ⟨#[]⟩ L = AF (F ++ R1) (L.drop (k + 1))) := by
            show AF ⟨#[]⟩ L = _
            rw [HR.out]; rfl
          have HS2 : Hid (∃ e : Nat, (F ++ R1).size ≤ 64 * e ∧ okPl e (L.drop (k + 1))) := by
            refine ⟨n + zz, ?_, HP4.out⟩
            rw [ByteArray.size_append, hfs.out, HIX.out rfl]
            omega
          have hbig : ¬ (9223372036854775807 < F.size + R1.size) := by
            rw [hfs.out, HIX.out rfl]
            omega
          clear HR HIX HP4 hfs
          go_wp2_with fail
          refine (HF.out _).mono ?_
          rintro e w8 ⟨rfl, b8⟩
          have E8 := E7.trans (b8.mono E7.size)
          clear HF
          go_wp2
          exact ⟨⟨k + 1, F ++ R1, by omega, by go_num, rfl, HS2, HR2, E8⟩, by simp [intOf]; omega⟩
        · have hq' : (R2 != 0) = true := by simpa using hq
          have HR2 : Hid (AF ⟨#[]⟩ L = (⟨#[]⟩, R2)) := by
            show AF ⟨#[]⟩ L = _
            rw [HR.out, if_pos hq]
          clear HR hq HIX HF
          go_wp2
          go_ret2
          exact ⟨by rw [HR2.out]; rfl, F7⟩
      · obtain rfl : k = l.length := by omega
        have HZ : Hid (AF ⟨#[]⟩ L = (fillTo S 1024, 0)) := by
          show AF ⟨#[]⟩ L = (fillTo S 1024, 0)
          rw [HCC.out, show L.drop l.length = [] from by rw [← hLL, ← List.length_map (f := PV.plc)]; exact List.drop_length, HAN.out]
        have HF : Hid (∀ W, Calls Tryz.prog 105 #[.string S, .int .i64 16] W fun e w' => e = .returned (.string (fillTo S 1024)) ∧ Below W.heap.size W w') := fun W => by
          obtain ⟨e, he, hpl⟩ := HSZ.out
          have := okPl_end hpl
          exact filled_any S 16 W (by omega) (by omega)
        generalize fillTo S 1024 = F at *
        clear HSZ HCC HMM
        go_wp2_with fail
        refine (HF.out _).mono ?_
        rintro e w8 ⟨rfl, b8⟩
        have E8 := B'.trans (b8.mono B'.size)
        go_wp2
        go_ret2
        exact ⟨by rw [HZ.out]; rfl, E8⟩

end Go.Proofs.YthmohjgdcjafkaeGreat

/- Registries: what is wrong with them, and the contract of registry.Check. -/
namespace Go.Proofs.YthmohjgdcjafkaeGreat
open Go.RowKit Go.PlainAid

set_option maxRecDepth 100000

/-- What is wrong with a registry. -/
def chkRg (K : Ker) (L : List Plc) : Int := if chkLink K L ≠ 0 then chkLink K L else if (ordOf L).2 ≠ 0 then (ordOf L).2 else (areaOf K L).2
theorem chkRg_cases (K : Ker) (L : List Plc) : (chkKer K ≠ 0 ∧ chkRg K L = chkKer K) ∨ (chkKer K = 0 ∧ chkReg L ≠ 0 ∧ chkRg K L = chkReg L) ∨ (chkKer K = 0 ∧ chkReg L = 0 ∧ (ordOf L).2 ≠ 0 ∧ chkRg K L = (ordOf L).2) ∨ (chkKer K = 0 ∧ chkReg L = 0 ∧ (ordOf L).2 = 0 ∧ chkRg K L = (areaOf K L).2) := by
  unfold chkRg
  rcases chkLink_cases K L with ⟨h, e⟩ | ⟨h1, h2, e⟩ | ⟨h1, h2, h3, e⟩ | ⟨h1, h2, h3, e⟩
  · exact .inl ⟨h, by rw [e, if_pos h]⟩
  · exact .inr (.inl ⟨h1, h2, by rw [e, if_pos h2]⟩)
  · rcases lnOrd_err h2 with ⟨_, h4⟩ | ⟨h4, _⟩
    · exact .inr (.inr (.inl ⟨h1, h2, by omega, by rw [e, if_pos (by decide), h4]⟩))
    · rw [h3] at h4; cases h4
  · rw [e, if_neg (by decide)]
    by_cases h4 : (ordOf L).2 = 0
    · exact .inr (.inr (.inr ⟨h1, h2, h4, by rw [if_neg (by omega)]⟩))
    · exact .inr (.inr (.inl ⟨h1, h2, h4, by rw [if_pos h4]⟩))
theorem chkRg_zero {K : Ker} {L : List Plc} (h : chkRg K L = 0) : chkLink K L = 0 ∧ (ordOf L).2 = 0 ∧ (areaOf K L).2 = 0 := by
  unfold chkRg at h
  by_cases h1 : chkLink K L = 0
  · rw [if_neg (by omega)] at h
    by_cases h2 : (ordOf L).2 = 0
    · rw [if_neg (by omega)] at h
      exact ⟨h1, h2, h⟩
    · rw [if_pos h2] at h
      exact absurd h h2
  · rw [if_pos h1] at h
    exact absurd h h1

/-- A registry in memory. -/
def IsReg (n₀ : Nat) (W : World) (v : Value) (K : Ker) (l : List PV) : Prop := ∃ ve vl, v = .agg #[.int .i64 K.major, .int .i64 K.minor, ve, vl] ∧ RowOf 2 Exp.cell n₀ W ve K.exps ∧ IsPlcs n₀ W vl l
theorem IsReg.below {n₀ : Nat} {W W' : World} {v : Value} {K : Ker} {l : List PV} (h : IsReg n₀ W v K l) (hb : Below n₀ W W') : IsReg n₀ W' v K l := by
  obtain ⟨ve, vl, e, h1, h2⟩ := h
  exact ⟨ve, vl, e, h1.below hb, h2.below hb⟩
theorem IsReg.more {n₀ n₁ : Nat} {W : World} {v : Value} {K : Ker} {l : List PV} (h : IsReg n₀ W v K l) (hn : n₀ ≤ n₁) : IsReg n₁ W v K l := by
  obtain ⟨ve, vl, e, h1, h2⟩ := h
  exact ⟨ve, vl, e, h1.more hn, h2.more hn⟩

set_option maxHeartbeats 4000000 in
theorem regCheck_any (K : Ker) (l : List PV) (v : Value) (w : World) (h : IsReg w.heap.size w v K l) (hf : K.fits) (hfit : ∀ x ∈ l, x.mod.fits) :
    Calls Tryz.prog 19 #[v] w fun e w' => e = .returned (.int .i64 (chkRg K (l.map PV.plc))) ∧ Below w.heap.size w w' := by
  obtain ⟨ve, vl, rfl, hE, hL⟩ := h
  have hK : IsKer w.heap.size w (.agg #[.int .i64 K.major, .int .i64 K.minor, ve]) K := ⟨ve, rfl, hE⟩
  have HC : Hid (∀ W, Below w.heap.size w W → Calls Tryz.prog 56 #[.agg #[.int .i64 K.major, .int .i64 K.minor, ve]] W fun e w' => e = .returned (.int .i64 (chkKer K)) ∧ Below W.heap.size W w') := fun W hb => kernel_any K _ W ((hK.below hb).more hb.size) hf
  have HF : Hid (∀ W, Below w.heap.size w W → Calls Tryz.prog 29 #[vl] W fun e w' => (∃ r, e = .returned (.tuple #[r, .int .i64 (chkReg (l.map PV.plc))]) ∧ RowOf 2 runCell w'.heap.size w' r (freeRes (l.map PV.plc))) ∧ Below W.heap.size W w') := fun W hb => free_any l vl W ((hL.below hb).more hb.size) hfit
  have HO : Hid (∀ W, Below w.heap.size w W → Calls Tryz.prog 57 #[vl] W fun e w' => (∃ r, e = .returned (.tuple #[r, .int .i64 (ordOf (l.map PV.plc)).2]) ∧ RowOf 1 strCell w'.heap.size w' r (ordOf (l.map PV.plc)).1 ∧ CapOk r) ∧ Below W.heap.size W w') := fun W hb => order_any l vl W ((hL.below hb).more hb.size) hfit
  have HA : Hid (∀ W, Below w.heap.size w W → Calls Tryz.prog 58 #[.agg #[.int .i64 K.major, .int .i64 K.minor, ve], vl] W fun e w' => e = .returned (.tuple #[.string (areaOf K (l.map PV.plc)).1, .int .i64 (areaOf K (l.map PV.plc)).2]) ∧ Below W.heap.size W w') := fun W hb => linkArea_any K _ l vl W ((hK.below hb).more hb.size) hf ((hL.below hb).more hb.size) hfit
  have key := chkRg_cases K (l.map PV.plc)
  generalize chkRg K (l.map PV.plc) = cr at *
  clear hK hf hfit
  obtain ⟨qe, je, rfl, _, _⟩ := hE
  obtain ⟨⟨a, cap, rfl, _, _⟩, _⟩ := hL
  generalize areaOf K (l.map PV.plc) = ar at *
  generalize chkKer K = ck at *
  generalize l.map PV.plc = L at *
  generalize chkReg L = cg at *
  generalize freeRes L = fr at *
  generalize ordOf L = od at *
  obtain ⟨oa, oe⟩ := od
  obtain ⟨az, ae⟩ := ar
  obtain ⟨ma, mi, ks⟩ := K
  dsimp only at *
  generalize ks.length = lk at *
  generalize l.length = ll at *
  have BB : Below w.heap.size w (w.alloc (.cells #[.int .i64 ma, .int .i64 mi, .slice qe lk je, .slice a ll cap] 27)) := (Below.refl _ _).alloc (Nat.le_refl _) _
  have KB : CellsAt (w.alloc (.cells #[.int .i64 ma, .int .i64 mi, .slice qe lk je, .slice a ll cap] 27)) w.heap.size 27 #[.int .i64 ma, .int .i64 mi, .slice qe lk je, .slice a ll cap] := CellsAt.new w 27 #[.int .i64 ma, .int .i64 mi, .slice qe lk je, .slice a ll cap]
  go_enter Tryz.func19, Tryz.ntmps19
  go_wp2_with fail
  refine (HC.out _ BB).mono ?_
  rintro e w2 ⟨rfl, b1⟩
  replace KB := KB.below b1 KB.lt
  replace BB := BB.trans (b1.mono BB.size)
  clear b1 HC
  have k0 := KB.cell 0
  have k1 := KB.cell 1
  have k2 := KB.cell 2
  have k3 := KB.cell 3
  have hk := KB.lt
  simp at k0 k1 k2 k3
  rcases key with ⟨h1, rfl⟩ | ⟨rfl, h2, rfl⟩ | ⟨rfl, rfl, h3, rfl⟩ | ⟨rfl, rfl, rfl, rfl⟩
  · have h1' : (cr != 0) = true := by simpa using h1
    clear h1
    go_wp2
    go_ret
    exact ⟨rfl, BB⟩
  all_goals
    go_wp2_with fail
    refine (HF.out _ BB).mono ?_
    rintro e w3 ⟨⟨r, rfl, ra, rc, rfl, _, _⟩, b1⟩
    replace KB := KB.below b1 KB.lt
    replace BB := BB.trans (b1.mono BB.size)
    clear b1 HF k0 k1 k2 k3 hk
    have k0 := KB.cell 0
    have k1 := KB.cell 1
    have k2 := KB.cell 2
    have k3 := KB.cell 3
    have hk := KB.lt
    simp at k0 k1 k2 k3
  · have h2' : (cr != 0) = true := by simpa using h2
    clear h2
    go_wp2
    go_ret
    exact ⟨rfl, BB⟩
  all_goals
    go_wp2_with fail
    refine (HO.out _ BB).mono ?_
    rintro e w4 ⟨⟨s, rfl, ⟨sa, sc, rfl, _, _⟩, _⟩, b1⟩
    replace KB := KB.below b1 KB.lt
    replace BB := BB.trans (b1.mono BB.size)
    clear b1 HO k0 k1 k2 k3 hk
    have k0 := KB.cell 0
    have k1 := KB.cell 1
    have k2 := KB.cell 2
    have k3 := KB.cell 3
    have hk := KB.lt
    simp at k0 k1 k2 k3
  · have h3' : (cr != 0) = true := by simpa using h3
    clear h3
    go_wp2
    go_ret
    exact ⟨rfl, BB⟩
  · go_wp2_with fail
    refine (HA.out _ BB).mono ?_
    rintro e w5 ⟨rfl, b1⟩
    replace BB := BB.trans (b1.mono BB.size)
    go_wp2
    go_ret
    exact ⟨rfl, BB⟩

end Go.Proofs.YthmohjgdcjafkaeGreat

/- The modules lib and app of the statements. -/
namespace Go.Proofs.YthmohjgdcjafkaeGreat
open Go.RowKit Go.PlainAid Go.Lib

def libM : Mod := ⟨⟨#[108, 105, 98]⟩, 1, 2, ⟨#[97, 98, 99, 100, 101, 102, 103, 104]⟩, [⟨⟨#[102]⟩, 4⟩], [], []⟩
def appM : Mod := ⟨⟨#[97, 112, 112]⟩, 0, 0, ⟨#[46, 46, 46, 46, 46, 46, 46, 46]⟩, [], [⟨⟨#[108, 105, 98]⟩, ⟨#[102]⟩, 1, 1⟩, ⟨⟨#[107, 101, 114, 110, 101, 108]⟩, ⟨#[107]⟩, 0, 0⟩], [⟨1, 0, 0, 1⟩, ⟨5, 4, 1, 0⟩]⟩
theorem chk_lib : chkMod libM = 0 := by kernel_rfl
theorem chk_app : chkMod appM = 0 := by kernel_rfl

set_option maxHeartbeats 1000000 in
theorem lib_any (w : World) : Calls Tryz.prog 53 #[] w fun e w' => ∃ pe ke, e = .returned (.agg #[.string ⟨#[108, 105, 98]⟩, .int .i64 1, .int .i64 2, .string ⟨#[97, 98, 99, 100, 101, 102, 103, 104]⟩, .slice pe 1 ke, .slice none 0 0, .slice none 0 0]) ∧ IsMod w'.heap.size w' (.agg #[.string ⟨#[108, 105, 98]⟩, .int .i64 1, .int .i64 2, .string ⟨#[97, 98, 99, 100, 101, 102, 103, 104]⟩, .slice pe 1 ke, .slice none 0 0, .slice none 0 0]) libM ∧ Below w.heap.size w w' := by
  go_enter Tryz.func53, Tryz.ntmps53
  go_wp2
  (try simp only [Exit.inBlock, Exit.then])
  refine bodyPost_ret (results_cell_row rfl _ _ _ _ _ _ _ rfl (CellsAt.kept (CellsAt.new w _ _) (World.grownBy_alloc _ _ none) (by simp)) Tryz.underlying31 rfl (by kernel_rfl)) rfl ?_
  refine ⟨_, _, rfl, ⟨_, _, _, rfl, ?_, ⟨_, _, rfl, by decide, .inl rfl⟩, ⟨_, _, rfl, by decide, .inl rfl⟩⟩, ((Below.refl _ _).alloc (Nat.le_refl _) _).alloc (by simp) _⟩
  have c := CellsAt.new (w.alloc (.cells #[.string ⟨#[108, 105, 98]⟩, .int .i64 1, .int .i64 2, .string ⟨#[97, 98, 99, 100, 101, 102, 103, 104]⟩, .slice (some ⟨w.heap.size + 1, 0, none⟩) 1 1, .slice none 0 0, .slice none 0 0] 31)) 128 #[.string ⟨#[102]⟩, .int .i64 4]
  rw [World.size_alloc] at c
  exact rowOf_cells (C := expC) (cells := Exp.cell) (sz := 2) (fun _ => rfl) expC_at c libM.exps (by decide) 1 rfl

set_option maxHeartbeats 1000000 in
theorem app_any (w : World) : Calls Tryz.prog 97 #[] w fun e w' => ∃ v, e = .returned v ∧ IsMod w'.heap.size w' v appM ∧ Below w.heap.size w w' := by
  go_enter Tryz.func97, Tryz.ntmps97
  go_wp2
  (try simp only [Exit.inBlock, Exit.then])
  refine bodyPost_ret (results_cell_row rfl _ _ _ _ _ _ _ rfl (CellsAt.kept (CellsAt.kept (CellsAt.new w _ _) (World.grownBy_alloc _ _ none) (by simp)) (World.grownBy_alloc _ _ none) (by simp)) Tryz.underlying31 rfl (by kernel_rfl)) rfl ?_
  generalize hA : w.alloc (.cells #[.string ⟨#[97, 112, 112]⟩, .int .i64 0, .int .i64 0, .string ⟨#[46, 46, 46, 46, 46, 46, 46, 46]⟩, .slice none 0 0, .slice (some ⟨w.heap.size + 1, 0, none⟩) 2 2, .slice (some ⟨w.heap.size + 1 + 1, 0, none⟩) 2 2] 31) = wa
  have hz : wa.heap.size = w.heap.size + 1 := by rw [← hA]; simp
  have B1 : Below w.heap.size w wa := by rw [← hA]; exact (Below.refl _ _).alloc (Nat.le_refl _) _
  clear hA
  have c1 := CellsAt.new wa 100 #[.string ⟨#[108, 105, 98]⟩, .string ⟨#[102]⟩, .int .i64 1, .int .i64 1, .string ⟨#[107, 101, 114, 110, 101, 108]⟩, .string ⟨#[107]⟩, .int .i64 0, .int .i64 0]
  have c2 := CellsAt.new (wa.alloc (.cells #[.string ⟨#[108, 105, 98]⟩, .string ⟨#[102]⟩, .int .i64 1, .int .i64 1, .string ⟨#[107, 101, 114, 110, 101, 108]⟩, .string ⟨#[107]⟩, .int .i64 0, .int .i64 0] 100)) 102 #[.int .i64 1, .int .i64 0, .int .i64 0, .int .i64 1, .int .i64 5, .int .i64 4, .int .i64 1, .int .i64 0]
  have c1' := c1.kept (World.grownBy_alloc _ (.cells #[.int .i64 1, .int .i64 0, .int .i64 0, .int .i64 1, .int .i64 5, .int .i64 4, .int .i64 1, .int .i64 0] 102) none) (by simp)
  rw [hz] at c1'
  rw [World.size_alloc, hz] at c2
  refine ⟨_, rfl, ⟨_, _, _, rfl, ⟨_, _, rfl, by decide, .inl rfl⟩, ?_, ?_⟩, (B1.alloc (by omega) _).alloc (by simp; omega) _⟩
  · exact rowOf_cells (C := impC) (cells := Imp.cell) (sz := 4) (fun _ => rfl) impC_at c1' appM.imps (by decide) 2 rfl
  · exact rowOf_cells (C := patC) (cells := Pat.cell) (sz := 4) (fun _ => rfl) patC_at c2 appM.pats (by decide) 2 rfl

end Go.Proofs.YthmohjgdcjafkaeGreat

/- The placed modules of the statements. -/
namespace Go.Proofs.YthmohjgdcjafkaeGreat
open Go.RowKit Go.PlainAid

set_option maxRecDepth 100000

def pairL : List Plc := [⟨appM, 1⟩, ⟨libM, 4⟩]
theorem fits_app : appM.fits := by
  refine ⟨by decide, by decide, fun e he => by simp [appM] at he, fun i hi => ?_⟩
  have : i = ⟨⟨#[108, 105, 98]⟩, ⟨#[102]⟩, 1, 1⟩ ∨ i = ⟨⟨#[107, 101, 114, 110, 101, 108]⟩, ⟨#[107]⟩, 0, 0⟩ := by simpa [appM] using hi
  rcases this with rfl | rfl <;> exact ⟨by decide, by decide⟩
theorem fits_lib : libM.fits := by
  refine ⟨by decide, by decide, fun e he => ?_, fun i hi => by simp [libM] at hi⟩
  have : e = ⟨⟨#[102]⟩, 4⟩ := by simpa [libM] using he
  subst this
  decide

def pvC (x : PV) : List Value := [.string x.mod.name, .int .i64 x.mod.major, .int .i64 x.mod.minor, .string x.mod.text, x.ve, x.vi, x.vp, .int .i64 x.first]
theorem pvC_at (x : PV) (i : Nat) (hi : i < 8) : (pvC x)[i]? = some (PV.cell x i) := by
  have : i = 0 ∨ i = 1 ∨ i = 2 ∨ i = 3 ∨ i = 4 ∨ i = 5 ∨ i = 6 ∨ i = 7 := by omega
  rcases this with rfl | rfl | rfl | rfl | rfl | rfl | rfl | rfl <;> rfl
theorem mod_rows {n₀ : Nat} {W : World} {N T : ByteArray} {a b : Int} {ve vi vp : Value} {M : Mod} (h : IsMod n₀ W (.agg #[.string N, .int .i64 a, .int .i64 b, .string T, ve, vi, vp]) M) : RowOf 2 Exp.cell n₀ W ve M.exps ∧ RowOf 4 Imp.cell n₀ W vi M.imps ∧ RowOf 4 Pat.cell n₀ W vp M.pats := by
  obtain ⟨ve', vi', vp', e, h1, h2, h3⟩ := h
  injection e with e
  have e2 := congrArg Array.toList e
  simp at e2
  obtain ⟨_, _, _, _, rfl, rfl, rfl⟩ := e2
  exact ⟨h1, h2, h3⟩

set_option maxHeartbeats 2000000 in
theorem pair_any (w : World) : Calls Tryz.prog 55 #[] w fun e w' => ∃ v l, e = .returned v ∧ l.map PV.plc = pairL ∧ IsPlcs w'.heap.size w' v l ∧ Below w.heap.size w w' := by
  go_enter Tryz.func55, Tryz.ntmps55
  go_wp2_with fail
  refine (app_any _).mono ?_
  rintro e w1 ⟨v1, rfl, hA, b1⟩
  obtain ⟨ve, vi, vp, rfl, hE, hI, hP⟩ := hA
  have hAE := hE
  have hAI := hI
  have hAP := hP
  obtain ⟨ae, ce, rfl, _, _⟩ := hE
  obtain ⟨ai, ci, rfl, _, _⟩ := hI
  obtain ⟨ap, cp, rfl, _, _⟩ := hP
  dsimp only [appM]
  go_wp2_with fail
  refine (lib_any _).mono ?_
  rintro e w2 ⟨pe, ke, rfl, hL, b2⟩
  obtain ⟨l1, l2, l3⟩ := mod_rows hL
  have B2 := b1.trans (b2.mono b1.size)
  clear b1 hL
  go_wp2
  go_ret
  refine ⟨_, [⟨appM, .slice ae 0 ce, .slice ai 2 ci, .slice ap 2 cp, 1⟩, ⟨libM, .slice pe 1 ke, .slice none 0 0, .slice none 0 0, 4⟩], rfl, rfl, ⟨?_, ?_⟩, B2.alloc B2.size _⟩
  · exact rowOf_cells (C := pvC) (cells := PV.cell) (sz := 8) (fun _ => rfl) pvC_at (CellsAt.new w2 54 _) [⟨appM, .slice ae 0 ce, .slice ai 2 ci, .slice ap 2 cp, 1⟩, ⟨libM, .slice pe 1 ke, .slice none 0 0, .slice none 0 0, 4⟩] (show 2 ≤ 255 by decide) 2 rfl
  · intro x hx
    have : x = ⟨appM, .slice ae 0 ce, .slice ai 2 ci, .slice ap 2 cp, 1⟩ ∨ x = ⟨libM, .slice pe 1 ke, .slice none 0 0, .slice none 0 0, 4⟩ := by simpa using hx
    have hb : ∀ o, Below w2.heap.size w2 (w2.alloc o) := fun o => (Below.refl _ _).alloc (Nat.le_refl _) o
    have hbb : ∀ o, Below w1.heap.size w1 (w2.alloc o) := fun o => b2.trans ((hb o).mono b2.size)
    rcases this with rfl | rfl
    · exact ⟨(hAE.below (hbb _)).more (hbb _).size, (hAI.below (hbb _)).more (hbb _).size, (hAP.below (hbb _)).more (hbb _).size⟩
    · exact ⟨(l1.below (hb _)).more (hb _).size, (l2.below (hb _)).more (hb _).size, (l3.below (hb _)).more (hb _).size⟩

theorem pair_fits {l : List PV} (h : l.map PV.plc = pairL) : ∀ x ∈ l, x.mod.fits := by
  intro x hx
  have : x.plc ∈ pairL := by rw [← h]; exact List.mem_map_of_mem hx
  have h2 : x.plc = ⟨appM, 1⟩ ∨ x.plc = ⟨libM, 4⟩ := by simpa [pairL] using this
  rcases h2 with h2 | h2
  · have e : x.mod = appM := congrArg Plc.mod h2
    rw [e]; exact fits_app
  · have e : x.mod = libM := congrArg Plc.mod h2
    rw [e]; exact fits_lib

theorem pv_one {n₀ : Nat} {W : World} {x : PV} (h : PlcAt n₀ W x) : ∀ u ∈ pvC x, u.oneCell' = true := by
  obtain ⟨⟨pe, ke, e4, _⟩, ⟨pi, ki, e5, _⟩, ⟨pp, kp, e6, _⟩⟩ := h
  intro u hu
  unfold pvC at hu
  rw [e4, e5, e6] at hu
  simp at hu
  rcases hu with rfl | rfl | rfl | rfl | rfl | rfl | rfl | rfl <;> rfl
theorem pvs_one {n₀ : Nat} {W : World} {l : List PV} (h : ∀ x ∈ l, PlcAt n₀ W x) : ∀ u ∈ l.flatMap pvC, u.oneCell' = true := by
  intro u hu
  obtain ⟨x, hx, hux⟩ := List.mem_flatMap.1 hu
  exact pv_one (h x hx) u hux

theorem infoPlc : (Tryz.prog.info? 54).map (fun i => (i.zero, i.size, i.bytes)) = some (some (.agg #[.string ⟨#[]⟩, .int .i64 0, .int .i64 0, .string ⟨#[]⟩, .slice none 0 0, .slice none 0 0, .slice none 0 0, .int .i64 0]), 8, 128) := by kernel_rfl
theorem infoPlc_parts : ∃ i, Tryz.prog.info? 54 = some i ∧ i.zero = some (.agg #[.string ⟨#[]⟩, .int .i64 0, .int .i64 0, .string ⟨#[]⟩, .slice none 0 0, .slice none 0 0, .slice none 0 0, .int .i64 0]) ∧ i.size = 8 ∧ i.bytes = 128 := by
  have h := infoPlc
  cases hi : Tryz.prog.info? 54 with
  | none => rw [hi] at h; cases h
  | some i =>
    rw [hi] at h
    simp at h
    exact ⟨i, rfl, h.1, h.2.1, h.2.2⟩

end Go.Proofs.YthmohjgdcjafkaeGreat

/- The contracts of slices.Clone at exports, imports, patches and placed modules: a row of one's own. -/
namespace Go.Proofs.YthmohjgdcjafkaeGreat
open Go.RowKit Go.PlainAid Go.Lib

set_option maxRecDepth 100000

theorem add_none (b off j : Nat) : (⟨b, off, none⟩ : Addr).add j = ⟨b, off + j, none⟩ := by unfold Addr.add; split <;> simp_all

theorem infoExpC : (Tryz.prog.info? 128).map (fun i => (i.zero, i.size, i.bytes)) = some (some (.agg #[.string ⟨#[]⟩, .int .i64 0]), 2, 24) := by kernel_rfl
theorem infoExp_parts : ∃ i, Tryz.prog.info? 128 = some i ∧ i.zero = some (.agg #[.string ⟨#[]⟩, .int .i64 0]) ∧ i.size = 2 ∧ i.bytes = 24 := by
  have h := infoExpC
  cases hi : Tryz.prog.info? 128 with
  | none => rw [hi] at h; cases h
  | some i =>
    rw [hi] at h
    simp at h
    exact ⟨i, rfl, h.1, h.2.1, h.2.2⟩
theorem oneExp (l : List Exp) : ∀ u ∈ l.flatMap expC, u.oneCell' = true := by
  intro u hu
  obtain ⟨x, _, hx⟩ := List.mem_flatMap.1 hu
  simp only [expC, List.mem_cons, List.not_mem_nil, or_false] at hx
  rcases hx with rfl | rfl <;> rfl
set_option maxHeartbeats 2000000 in
theorem cloneExp_any (l : List Exp) (v : Value) (w : World) (h : RowOf 2 Exp.cell w.heap.size w v l) (hl : l.length ≤ 255) :
    Calls Tryz.prog 109 #[v] w fun e w' => (∃ r, e = .returned r ∧ w'.ownsRow w.heap.size 128 2 r l.length (l.flatMap expC)) ∧ Below w.heap.size w w' := by
  obtain ⟨i0, hi0, hz0, hz1, hz2⟩ := infoExp_parts
  obtain ⟨a, cap, rfl, _, h⟩ := h
  have q0 : ∀ (w : World) (a : Option Addr) (n c n' c' : Nat), (binOp .eql 22 (.slice a n c) (.slice none n' c')).run Tryz.prog w = .ok (.bool a.isNone) w := fun w a n c n' c' => Lib.run_eql_slice_nil w _ _ a n c n' c' Tryz.underlying22
  have HN : Hid (∀ ad, a = some ad → ∀ j u, (l.flatMap expC)[j]? = some u → w.cell? (ad.add j) = some u) := by
    intro ad ha j u hu
    rcases h with h | ⟨b, off, rfl, hbn, hcells⟩
    · subst h; simp at hu
    · obtain rfl := Option.some.inj ha
      exact news_row (C := expC) (cells := Exp.cell) (sz := 2) (by decide) (fun _ => rfl) expC_at hcells j u hu
  have HL : Hid ((l.flatMap expC).length = l.length * 2) := flat_len (C := expC) (sz := 2) (fun _ => rfl) l
  have HO : Hid (∀ u ∈ l.flatMap expC, u.oneCell' = true) := (oneExp l)
  have HE : Hid (a = none → l = []) := fun e => by
    rcases h with h | ⟨b, off, h, _⟩
    · exact h
    · rw [e] at h; cases h
  clear h
  rcases a with _ | ad
  · have := HE.out rfl
    subst this
    clear HN HL HO HE
    go_enter Tryz.func109, Tryz.ntmps109
    go_wp2
    go_ret
    exact ⟨⟨_, rfl, World.ownsRow_nil _ _ _ _⟩, Below.refl _ _⟩
  · have HN2 : Hid (∀ j u, (l.flatMap expC)[j]? = some u → w.cell? (ad.add j) = some u) := HN.out ad rfl
    clear HN HE
    generalize l.flatMap expC = news at *
    go_enter Tryz.func109, Tryz.ntmps109
    go_wp2_with (at_builtin; refine wpList_append_own _ rfl _ _ 22 rfl w.heap.size 128 i0 (.agg #[.string ⟨#[]⟩, .int .i64 0]) 2 24 Tryz.underlying22 hi0 hz0 hz1 hz2 rfl (by decide) _ _ _ rfl (World.ownsRow_made w #[] 0 (Nat.le_refl _) (Nat.zero_le _) (by simp)) ad l.length cap news rfl ?qc1 ?qc2 ?qc3 ?qc4 ?qc5 ?qc6 ?_)
    case qc1 => exact HL.out
    case qc2 =>
      intro j u hj
      exact Lib.cell?_alloc_some _ (HN2.out j u hj)
    case qc3 => exact HO.out
    case qc4 => unfold maxLen; omega
    case qc5 => omega
    case qc6 => simp
    intro v' w1 hown hgrow hnil
    go_wp2
    go_ret
    refine ⟨⟨v', rfl, by simpa using hown⟩, ?_⟩
    exact ((Below.refl _ w).alloc (Nat.le_refl _) _).grown hgrow (by simp) (by intro k hk; simp [Value.ownBlock] at hk; omega)

theorem infoImpC : (Tryz.prog.info? 100).map (fun i => (i.zero, i.size, i.bytes)) = some (some (.agg #[.string ⟨#[]⟩, .string ⟨#[]⟩, .int .i64 0, .int .i64 0]), 4, 48) := by kernel_rfl
theorem infoImp_parts : ∃ i, Tryz.prog.info? 100 = some i ∧ i.zero = some (.agg #[.string ⟨#[]⟩, .string ⟨#[]⟩, .int .i64 0, .int .i64 0]) ∧ i.size = 4 ∧ i.bytes = 48 := by
  have h := infoImpC
  cases hi : Tryz.prog.info? 100 with
  | none => rw [hi] at h; cases h
  | some i =>
    rw [hi] at h
    simp at h
    exact ⟨i, rfl, h.1, h.2.1, h.2.2⟩
theorem oneImp (l : List Imp) : ∀ u ∈ l.flatMap impC, u.oneCell' = true := by
  intro u hu
  obtain ⟨x, _, hx⟩ := List.mem_flatMap.1 hu
  simp only [impC, List.mem_cons, List.not_mem_nil, or_false] at hx
  rcases hx with rfl | rfl | rfl | rfl <;> rfl
set_option maxHeartbeats 2000000 in
theorem cloneImp_any (l : List Imp) (v : Value) (w : World) (h : RowOf 4 Imp.cell w.heap.size w v l) (hl : l.length ≤ 255) :
    Calls Tryz.prog 117 #[v] w fun e w' => (∃ r, e = .returned r ∧ w'.ownsRow w.heap.size 100 4 r l.length (l.flatMap impC)) ∧ Below w.heap.size w w' := by
  obtain ⟨i0, hi0, hz0, hz1, hz2⟩ := infoImp_parts
  obtain ⟨a, cap, rfl, _, h⟩ := h
  have q0 : ∀ (w : World) (a : Option Addr) (n c n' c' : Nat), (binOp .eql 28 (.slice a n c) (.slice none n' c')).run Tryz.prog w = .ok (.bool a.isNone) w := fun w a n c n' c' => Lib.run_eql_slice_nil w _ _ a n c n' c' Tryz.underlying28
  have HN : Hid (∀ ad, a = some ad → ∀ j u, (l.flatMap impC)[j]? = some u → w.cell? (ad.add j) = some u) := by
    intro ad ha j u hu
    rcases h with h | ⟨b, off, rfl, hbn, hcells⟩
    · subst h; simp at hu
    · obtain rfl := Option.some.inj ha
      exact news_row (C := impC) (cells := Imp.cell) (sz := 4) (by decide) (fun _ => rfl) impC_at hcells j u hu
  have HL : Hid ((l.flatMap impC).length = l.length * 4) := flat_len (C := impC) (sz := 4) (fun _ => rfl) l
  have HO : Hid (∀ u ∈ l.flatMap impC, u.oneCell' = true) := (oneImp l)
  have HE : Hid (a = none → l = []) := fun e => by
    rcases h with h | ⟨b, off, h, _⟩
    · exact h
    · rw [e] at h; cases h
  clear h
  rcases a with _ | ad
  · have := HE.out rfl
    subst this
    clear HN HL HO HE
    go_enter Tryz.func117, Tryz.ntmps117
    go_wp2
    go_ret
    exact ⟨⟨_, rfl, World.ownsRow_nil _ _ _ _⟩, Below.refl _ _⟩
  · have HN2 : Hid (∀ j u, (l.flatMap impC)[j]? = some u → w.cell? (ad.add j) = some u) := HN.out ad rfl
    clear HN HE
    generalize l.flatMap impC = news at *
    go_enter Tryz.func117, Tryz.ntmps117
    go_wp2_with (at_builtin; refine wpList_append_own _ rfl _ _ 28 rfl w.heap.size 100 i0 (.agg #[.string ⟨#[]⟩, .string ⟨#[]⟩, .int .i64 0, .int .i64 0]) 4 48 Tryz.underlying28 hi0 hz0 hz1 hz2 rfl (by decide) _ _ _ rfl (World.ownsRow_made w #[] 0 (Nat.le_refl _) (Nat.zero_le _) (by simp)) ad l.length cap news rfl ?qc1 ?qc2 ?qc3 ?qc4 ?qc5 ?qc6 ?_)
    case qc1 => exact HL.out
    case qc2 =>
      intro j u hj
      exact Lib.cell?_alloc_some _ (HN2.out j u hj)
    case qc3 => exact HO.out
    case qc4 => unfold maxLen; omega
    case qc5 => omega
    case qc6 => simp
    intro v' w1 hown hgrow hnil
    go_wp2
    go_ret
    refine ⟨⟨v', rfl, by simpa using hown⟩, ?_⟩
    exact ((Below.refl _ w).alloc (Nat.le_refl _) _).grown hgrow (by simp) (by intro k hk; simp [Value.ownBlock] at hk; omega)

theorem infoPatC : (Tryz.prog.info? 102).map (fun i => (i.zero, i.size, i.bytes)) = some (some (.agg #[.int .i64 0, .int .i64 0, .int .i64 0, .int .i64 0]), 4, 32) := by kernel_rfl
theorem infoPat_parts : ∃ i, Tryz.prog.info? 102 = some i ∧ i.zero = some (.agg #[.int .i64 0, .int .i64 0, .int .i64 0, .int .i64 0]) ∧ i.size = 4 ∧ i.bytes = 32 := by
  have h := infoPatC
  cases hi : Tryz.prog.info? 102 with
  | none => rw [hi] at h; cases h
  | some i =>
    rw [hi] at h
    simp at h
    exact ⟨i, rfl, h.1, h.2.1, h.2.2⟩
theorem onePat (l : List Pat) : ∀ u ∈ l.flatMap patC, u.oneCell' = true := by
  intro u hu
  obtain ⟨x, _, hx⟩ := List.mem_flatMap.1 hu
  simp only [patC, List.mem_cons, List.not_mem_nil, or_false] at hx
  rcases hx with rfl | rfl | rfl | rfl <;> rfl
set_option maxHeartbeats 2000000 in
theorem clonePat_any (l : List Pat) (v : Value) (w : World) (h : RowOf 4 Pat.cell w.heap.size w v l) (hl : l.length ≤ 255) :
    Calls Tryz.prog 118 #[v] w fun e w' => (∃ r, e = .returned r ∧ w'.ownsRow w.heap.size 102 4 r l.length (l.flatMap patC)) ∧ Below w.heap.size w w' := by
  obtain ⟨i0, hi0, hz0, hz1, hz2⟩ := infoPat_parts
  obtain ⟨a, cap, rfl, _, h⟩ := h
  have q0 : ∀ (w : World) (a : Option Addr) (n c n' c' : Nat), (binOp .eql 29 (.slice a n c) (.slice none n' c')).run Tryz.prog w = .ok (.bool a.isNone) w := fun w a n c n' c' => Lib.run_eql_slice_nil w _ _ a n c n' c' Tryz.underlying29
  have HN : Hid (∀ ad, a = some ad → ∀ j u, (l.flatMap patC)[j]? = some u → w.cell? (ad.add j) = some u) := by
    intro ad ha j u hu
    rcases h with h | ⟨b, off, rfl, hbn, hcells⟩
    · subst h; simp at hu
    · obtain rfl := Option.some.inj ha
      exact news_row (C := patC) (cells := Pat.cell) (sz := 4) (by decide) (fun _ => rfl) patC_at hcells j u hu
  have HL : Hid ((l.flatMap patC).length = l.length * 4) := flat_len (C := patC) (sz := 4) (fun _ => rfl) l
  have HO : Hid (∀ u ∈ l.flatMap patC, u.oneCell' = true) := (onePat l)
  have HE : Hid (a = none → l = []) := fun e => by
    rcases h with h | ⟨b, off, h, _⟩
    · exact h
    · rw [e] at h; cases h
  clear h
  rcases a with _ | ad
  · have := HE.out rfl
    subst this
    clear HN HL HO HE
    go_enter Tryz.func118, Tryz.ntmps118
    go_wp2
    go_ret
    exact ⟨⟨_, rfl, World.ownsRow_nil _ _ _ _⟩, Below.refl _ _⟩
  · have HN2 : Hid (∀ j u, (l.flatMap patC)[j]? = some u → w.cell? (ad.add j) = some u) := HN.out ad rfl
    clear HN HE
    generalize l.flatMap patC = news at *
    go_enter Tryz.func118, Tryz.ntmps118
    go_wp2_with (at_builtin; refine wpList_append_own _ rfl _ _ 29 rfl w.heap.size 102 i0 (.agg #[.int .i64 0, .int .i64 0, .int .i64 0, .int .i64 0]) 4 32 Tryz.underlying29 hi0 hz0 hz1 hz2 rfl (by decide) _ _ _ rfl (World.ownsRow_made w #[] 0 (Nat.le_refl _) (Nat.zero_le _) (by simp)) ad l.length cap news rfl ?qc1 ?qc2 ?qc3 ?qc4 ?qc5 ?qc6 ?_)
    case qc1 => exact HL.out
    case qc2 =>
      intro j u hj
      exact Lib.cell?_alloc_some _ (HN2.out j u hj)
    case qc3 => exact HO.out
    case qc4 => unfold maxLen; omega
    case qc5 => omega
    case qc6 => simp
    intro v' w1 hown hgrow hnil
    go_wp2
    go_ret
    refine ⟨⟨v', rfl, by simpa using hown⟩, ?_⟩
    exact ((Below.refl _ w).alloc (Nat.le_refl _) _).grown hgrow (by simp) (by intro k hk; simp [Value.ownBlock] at hk; omega)

set_option maxHeartbeats 2000000 in
theorem clonePlc_any (l : List PV) (v : Value) (w : World) (h : RowOf 8 PV.cell w.heap.size w v l) (hl : l.length ≤ 255) (hone : ∀ u ∈ l.flatMap pvC, u.oneCell' = true) :
    Calls Tryz.prog 110 #[v] w fun e w' => (∃ r, e = .returned r ∧ w'.ownsRow w.heap.size 54 8 r l.length (l.flatMap pvC)) ∧ Below w.heap.size w w' := by
  obtain ⟨i0, hi0, hz0, hz1, hz2⟩ := infoPlc_parts
  obtain ⟨a, cap, rfl, _, h⟩ := h
  have q0 : ∀ (w : World) (a : Option Addr) (n c n' c' : Nat), (binOp .eql 25 (.slice a n c) (.slice none n' c')).run Tryz.prog w = .ok (.bool a.isNone) w := fun w a n c n' c' => Lib.run_eql_slice_nil w _ _ a n c n' c' Tryz.underlying25
  have HN : Hid (∀ ad, a = some ad → ∀ j u, (l.flatMap pvC)[j]? = some u → w.cell? (ad.add j) = some u) := by
    intro ad ha j u hu
    rcases h with h | ⟨b, off, rfl, hbn, hcells⟩
    · subst h; simp at hu
    · obtain rfl := Option.some.inj ha
      exact news_row (C := pvC) (cells := PV.cell) (sz := 8) (by decide) (fun _ => rfl) pvC_at hcells j u hu
  have HL : Hid ((l.flatMap pvC).length = l.length * 8) := flat_len (C := pvC) (sz := 8) (fun _ => rfl) l
  have HO : Hid (∀ u ∈ l.flatMap pvC, u.oneCell' = true) := hone
  have HE : Hid (a = none → l = []) := fun e => by
    rcases h with h | ⟨b, off, h, _⟩
    · exact h
    · rw [e] at h; cases h
  clear h
  rcases a with _ | ad
  · have := HE.out rfl
    subst this
    clear HN HL HO HE
    go_enter Tryz.func110, Tryz.ntmps110
    go_wp2
    go_ret
    exact ⟨⟨_, rfl, World.ownsRow_nil _ _ _ _⟩, Below.refl _ _⟩
  · have HN2 : Hid (∀ j u, (l.flatMap pvC)[j]? = some u → w.cell? (ad.add j) = some u) := HN.out ad rfl
    clear HN HE
    generalize l.flatMap pvC = news at *
    go_enter Tryz.func110, Tryz.ntmps110
    go_wp2_with (at_builtin; refine wpList_append_own _ rfl _ _ 25 rfl w.heap.size 54 i0 _ 8 128 Tryz.underlying25 hi0 hz0 hz1 hz2 rfl (by decide) _ _ _ rfl (World.ownsRow_made w #[] 0 (Nat.le_refl _) (Nat.zero_le _) (by simp)) ad l.length cap news rfl ?qc1 ?qc2 ?qc3 ?qc4 ?qc5 ?qc6 ?_)
    case qc1 => exact HL.out
    case qc2 =>
      intro j u hj
      exact Lib.cell?_alloc_some _ (HN2.out j u hj)
    case qc3 => exact HO.out
    case qc4 => unfold maxLen; omega
    case qc5 => omega
    case qc6 => simp
    intro v' w1 hown hgrow hnil
    go_wp2
    go_ret
    refine ⟨⟨v', rfl, by simpa using hown⟩, ?_⟩
    exact ((Below.refl _ w).alloc (Nat.le_refl _) _).grown hgrow (by simp) (by intro k hk; simp [Value.ownBlock] at hk; omega)

end Go.Proofs.YthmohjgdcjafkaeGreat
