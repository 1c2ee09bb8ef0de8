/- Texts that are laid together. -/
import Derived.Test.YtlpnfbpgnfappaaGreatMrgN
import Derived.Test.YtlpnfbpgnfappaaGreatMrgM
import Derived.Test.YtlpnfbpgnfappaaGreatMrgC
import Derived.Lib.QuietBelow

/- The contracts of what package plan's Upgrade and Remove hand to planned. -/
namespace Go.Proofs.YtlpnfbpgnfappaaGreat
open Go.RowKit Go.PlainAid Go.Lib

set_option maxRecDepth 100000

theorem erase_mapP {α β : Type} (f : α → β) : ∀ (l : List α) (n : Nat), (l.eraseIdx n).map f = (l.map f).eraseIdx n
  | [], n => by simp
  | _ :: _, 0 => rfl
  | x :: l, n + 1 => by simp [erase_mapP f l n]
theorem nameIx_pv (l : List PV) (name : ByteArray) : nameIx (l.map PV.plc) name = ixFrom (fun x : PV => x.mod.name == name) 0 l := ix_map _ _ _ _
theorem up_cases (l : List PV) (M : Mod) (h0 : chkReg (l.map PV.plc) = 0) :
    (chkMod M ≠ 0 ∧ upDo (l.map PV.plc) M = ([], chkMod M)) ∨
    (chkMod M = 0 ∧ ixFrom (fun x : PV => x.mod.name == M.name) 0 l = -1 ∧ upDo (l.map PV.plc) M = ([], 5)) ∨
    (chkMod M = 0 ∧ ∃ (j : Nat) (x : PV), ixFrom (fun x : PV => x.mod.name == M.name) 0 l = (j : Int) ∧ l[j]? = some x ∧ 0 ≤ x.first ∧ x.first ≤ 16 ∧ chkReg ((l.eraseIdx j).map PV.plc) = 0 ∧
      ((roomRes (roomOf ((l.eraseIdx j).map PV.plc) x.first (szM M)) = (0, 8) ∧ upDo (l.map PV.plc) M = ([], 8)) ∨
       ∃ f, roomRes (roomOf ((l.eraseIdx j).map PV.plc) x.first (szM M)) = (f, 0) ∧ upDo (l.map PV.plc) M = (putAt ((l.eraseIdx j).map PV.plc) ⟨M, f⟩, 0))) := by
  by_cases hc : chkMod M = 0
  · rcases ix_spec (fun x : PV => x.mod.name == M.name) l 0 with ⟨h1, h2⟩ | ⟨j, x, h1, h2, h3, _⟩
    · exact .inr (.inl ⟨hc, h1, upDo_none hc (by rw [nameIx_pv]; exact h1)⟩)
    · rw [Nat.zero_add] at h1
      have hfx := okPl_first (chkReg_zero.1 h0).2.2 x.plc (List.mem_map_of_mem (List.mem_of_getElem? h2))
      have e1 : x.plc.first = x.first := rfl
      have her : (l.eraseIdx j).map PV.plc = (l.map PV.plc).eraseIdx j := erase_mapP _ _ _
      refine .inr (.inr ⟨hc, j, x, h1, h2, by omega, by omega, by rw [her]; exact chkReg_less j h0, ?_⟩)
      have hx2 : (l.map PV.plc)[j]? = some x.plc := by rw [List.getElem?_map, h2]; rfl
      rw [upDo_at hc (by rw [nameIx_pv]; exact h1) hx2, her, e1]
      cases roomOf ((l.map PV.plc).eraseIdx j) x.first (szM M) with
      | none => exact .inl ⟨rfl, rfl⟩
      | some f => exact .inr ⟨f, rfl, rfl⟩
  · exact .inl ⟨hc, upDo_bad hc⟩
theorem Lens.less {l : List PV} (h : Lens l) (j : Nat) : Lens (l.eraseIdx j) := ⟨Nat.le_trans (List.length_eraseIdx_le _ _) h.1, fun x hx => h.2 x (List.mem_of_mem_eraseIdx hx)⟩
theorem IsMod.below2 {n : Nat} {W W' : World} {v : Value} {M : Mod} (h : IsMod n W v M) (hb : Below n W W') : IsMod n W' v M := h.below hb

theorem PV.form {n : Nat} {W : World} {x : PV} (h : PlcAt n W x) : ∃ a1 a2 a3 n1 n2 n3 c1 c2 c3, x.val = .agg #[.string x.mod.name, .int .i64 x.mod.major, .int .i64 x.mod.minor, .string x.mod.text, .slice a1 n1 c1, .slice a2 n2 c2, .slice a3 n3 c3, .int .i64 x.first] := by
  obtain ⟨⟨a1, c1, e1, _⟩, ⟨a2, c2, e2, _⟩, ⟨a3, c3, e3, _⟩⟩ := h
  exact ⟨a1, a2, a3, _, _, _, c1, c2, c3, by unfold PV.val; rw [e1, e2, e3]⟩

set_option maxHeartbeats 16000000 in
theorem plUp1_any (base Bp Bm : Nat) (K : Ker) (ve vl : Value) (l : List PV) (M : Mod) (vm : Value) (cm : Array Value) (w : World) (hp : PackAt base Bp w 77 K ve vl l) (hl : Lens l) (hfit : ∀ x ∈ l, x.mod.fits) (h0 : chkReg (l.map PV.plc) = 0) (hb : base ≤ Bp) (hvm : vm = .agg cm) (hc : CellsAt w Bm 31 cm) (hmb : Bm < base) (hm : IsMod base w vm M) (hf : M.fits) :
    Calls Tryz.prog 44 #[.pointer (some ⟨Bp, 0, none⟩), .pointer (some ⟨Bm, 0, none⟩)] w fun e w' => e = .returned (.int .i64 (upDo (l.map PV.plc) M).2) ∧ Did base Bp K ve w w' (upDo (l.map PV.plc) M) := by
  have hrow := hp.rows hl
  have hbw : base ≤ w.heap.size := by have := hp.1.lt; omega
  have HSZ : Hid (∀ W, Below w.heap.size w W → Calls Tryz.prog 18 #[vm] W fun e w' => e = .returned (.tuple #[.int .i64 (if chkMod M = 0 then (szM M : Int) else 0), .int .i64 (chkMod M)]) ∧ Below W.heap.size W w') := fun W hb => size_any M vm W (((hm.more hbw).below hb).more hb.size) hf
  have HFN : Hid (∀ W, Below w.heap.size w W → Calls Tryz.prog 38 #[.pointer (some ⟨Bp, 0, none⟩), .string M.name] W fun e w' => e = .returned (.int .i64 (ixFrom (fun x : PV => x.mod.name == M.name) 0 l)) ∧ Below W.heap.size W w') := fun W hb => plFind_any base Bp K ve vl l M.name W (hp.below hb) hl
  have HTK : Hid (∀ (j : Nat) (x : PV), l[j]? = some x → ∀ W, Below w.heap.size w W → Calls Tryz.prog 43 #[.pointer (some ⟨Bp, 0, none⟩), .int .i64 (j : Int)] W fun e w' => e = .returned x.val ∧ (∃ vl', PackAt base Bp w' 77 K ve vl' (l.eraseIdx j)) ∧ Keeps base W w') := fun j x hx W hb' => plTake_any base Bp K ve vl l j x W (hp.below hb') hl hx hb
  have HRM : Hid (chkMod M = 0 → ∀ (j : Nat) (x : PV), l[j]? = some x → chkReg ((l.eraseIdx j).map PV.plc) = 0 → (0 ≤ x.first ∧ x.first ≤ 16) → ∀ vl' W, PackAt base Bp W 77 K ve vl' (l.eraseIdx j) → Calls Tryz.prog 45 #[.pointer (some ⟨Bp, 0, none⟩), .int .i64 x.first, .int .i64 (szM M : Int)] W fun e w' => e = .returned (.tuple #[.int .i64 (roomRes (roomOf ((l.eraseIdx j).map PV.plc) x.first (szM M))).1, .int .i64 (roomRes (roomOf ((l.eraseIdx j).map PV.plc) x.first (szM M))).2]) ∧ Below W.heap.size W w') := fun hz j x hx hcr hx0 vl' W hp' => by
    have hs := szM_bd hz
    exact plRoom_any base Bp K ve vl' (l.eraseIdx j) x.first (szM M) W hp' (hl.less j) (fun y hy => hfit y (List.mem_of_mem_eraseIdx hy)) hcr hx0 (by omega)
  have HPT : Hid (chkMod M = 0 → ∀ (j : Nat) (x : PV), l[j]? = some x → ∀ f vl' W, Keeps base w W → PackAt base Bp W 77 K ve vl' (l.eraseIdx j) → Calls Tryz.prog 40 #[.pointer (some ⟨Bp, 0, none⟩), vm, .int .i64 f] W fun e w' => e = .returned (.tuple #[]) ∧ (∃ vl2 l', l'.map PV.plc = putAt ((l.eraseIdx j).map PV.plc) ⟨M, f⟩ ∧ (∀ x ∈ l', x.mod.fits) ∧ Lens l' ∧ PackAt base Bp w' 77 K ve vl2 l') ∧ Keeps base W w') := fun hz j x hx f vl' W hk hp' => by
    have hx := chkMod_exps hz
    have hll : (l.eraseIdx j).length ≤ 249 := by
      rename_i hxx
      rw [List.length_eraseIdx_of_lt (List.getElem?_eq_some_iff.1 hxx).1]
      have := hl.1
      omega
    refine (plPut_any base Bp K ve vl' (l.eraseIdx j) M vm f W hp' (hl.less j) ((hm.below2 hk.1).more (Nat.le_trans hbw hk.1.size)) (by omega) hb).mono ?_
    rintro e w' ⟨rfl, ⟨vl2, l', h1, h2, h3, h4⟩, h5⟩
    refine ⟨rfl, ⟨vl2, l', h1, fun x hx' => ?_, ⟨by rw [h2]; omega, fun x hx' => ?_⟩, h4⟩, h5⟩
    · rcases h3 x hx' with g | g
      · exact hfit x (List.mem_of_mem_eraseIdx g)
      · rw [g]; exact hf
    · rcases h3 x hx' with g | g
      · exact hl.2 x (List.mem_of_mem_eraseIdx g)
      · rw [g]; omega
  have HXV : Hid (∀ x ∈ l, ∃ a1 a2 a3 n1 n2 n3 c1 c2 c3, x.val = .agg #[.string x.mod.name, .int .i64 x.mod.major, .int .i64 x.mod.minor, .string x.mod.text, .slice a1 n1 c1, .slice a2 n2 c2, .slice a3 n3 c3, .int .i64 x.first]) := fun x hx => PV.form (hrow.2 x hx)
  have key := up_cases l M h0
  obtain ⟨vxe, vxi, vxp, hvv, hxE, hxI, hxP⟩ := hm
  obtain ⟨pe, ke, e4, -⟩ := hxE
  obtain ⟨pi, ki, e5, -⟩ := hxI
  obtain ⟨pp, kp, e6, -⟩ := hxP
  subst e4 e5 e6
  rw [hvv] at hvm
  injection hvm with hvm
  subst hvm
  rw [hvv] at HSZ HPT
  clear hvv
  have HM0 : Hid (CellsAt w Bm 31 #[.string M.name, .int .i64 M.major, .int .i64 M.minor, .string M.text, .slice pe M.exps.length ke, .slice pi M.imps.length ki, .slice pp M.pats.length kp]) := hc
  have HBW : Hid (base ≤ w.heap.size) := hbw
  generalize upDo (l.map PV.plc) M = D at *
  obtain ⟨N, xa, xi, T, es, is, ps⟩ := M
  dsimp only at *
  generalize hck : chkMod ⟨N, xa, xi, T, es, is, ps⟩ = ck at *
  generalize hsz : (szM ⟨N, xa, xi, T, es, is, ps⟩ : Int) = sz at *
  generalize ixFrom (fun x : PV => x.mod.name == N) 0 l = ix at *
  generalize es.length = le at *
  generalize is.length = li at *
  generalize ps.length = lp at *
  have m0 := CellsAt.cell HM0.out 0
  have m1 := CellsAt.cell HM0.out 1
  have m2 := CellsAt.cell HM0.out 2
  have m3 := CellsAt.cell HM0.out 3
  have m4 := CellsAt.cell HM0.out 4
  have m5 := CellsAt.cell HM0.out 5
  have m6 := CellsAt.cell HM0.out 6
  have ml := CellsAt.lt HM0.out
  simp at m0 m1 m2 m3 m4 m5 m6
  have HKEY : Hid _ := key
  clear hp hl hfit h0 hrow hc hf hbw hck hsz key
  go_enter Tryz.func44, Tryz.ntmps44
  go_wp2_with fail
  refine (HSZ.out _ (Below.refl _ _)).mono ?_
  clear m0 m1 m2 m3 m4 m5 m6 ml
  rintro e w2 ⟨rfl, b2⟩
  have HB2 : Hid (Below w.heap.size w w2) := b2
  have HM2 : Hid (CellsAt w2 Bm 31 #[.string N, .int .i64 xa, .int .i64 xi, .string T, .slice pe le ke, .slice pi li ki, .slice pp lp kp]) := HM0.out.below b2 HM0.out.lt
  clear b2 HSZ
  rcases HKEY.out with ⟨hk, rfl⟩ | ⟨rfl, rfl, rfl⟩ | ⟨rfl, j, x, rfl, hx, hx0, hx16, hcr, hk⟩
  · have hk' : (ck != 0) = true := by simpa using hk
    have HK : Hid (ck ≠ 0) := hk
    clear hk
    go_wp2
    go_ret
    exact ⟨rfl, Keeps.of HB2.out HBW.out, fun h => absurd h HK.out⟩
  · simp only [if_true]
    have m0 := CellsAt.cell HM2.out 0
    have ml := CellsAt.lt HM2.out
    simp at m0
    go_wp2_with fail
    refine (HFN.out _ HB2.out).mono ?_
    clear m0 ml
    rintro e w3 ⟨rfl, b3⟩
    have HB3 : Hid (Below w.heap.size w w3) := HB2.out.trans (b3.mono HB2.out.size)
    clear b3 HFN HB2 HM2
    go_wp2
    go_ret
    exact ⟨rfl, Keeps.of HB3.out HBW.out, fun h => absurd h (by decide)⟩
  · simp only [if_true]
    have HKK : Hid _ := hk
    have HXX : Hid (l[j]? = some x) := hx
    have HX0 : Hid (0 ≤ x.first ∧ x.first ≤ 16) := ⟨hx0, hx16⟩
    have HCR : Hid (chkReg ((l.eraseIdx j).map PV.plc) = 0) := hcr
    clear hk hx hx0 hx16 hcr
    have m0 := CellsAt.cell HM2.out 0
    have ml := CellsAt.lt HM2.out
    simp at m0
    go_wp2_with fail
    refine (HFN.out _ HB2.out).mono ?_
    clear m0 ml
    rintro e w3 ⟨rfl, b3⟩
    have HB3 : Hid (Below w.heap.size w w3) := HB2.out.trans (b3.mono HB2.out.size)
    clear b3 HFN HB2 HM2
    have hj0 : ¬ ((j : Int) < 0) := by omega
    have HTK2 : Hid _ := HTK.out j x HXX.out w3 HB3.out
    have HRM2 : Hid _ := HRM.out (by first | rfl | trivial) j x HXX.out HCR.out HX0.out
    have HPT2 : Hid _ := HPT.out (by first | rfl | trivial) j x HXX.out
    obtain ⟨xe, xi2, xp, xle, xli, xlp, xke, xki, xkp, hxv⟩ := HXV.out x (List.mem_of_getElem? HXX.out)
    rw [hxv] at HTK2
    have hk := HKK.out
    clear HTK HRM HPT HXV HXX HX0 HCR HKK hxv
    generalize x.mod.name = xN at *
    generalize x.mod.major = xma at *
    generalize x.mod.minor = xmi at *
    generalize x.mod.text = xT at *
    generalize x.first = xf at *
    generalize roomRes (roomOf ((l.eraseIdx j).map PV.plc) xf sz) = RR at *
    have HKK : Hid _ := hk
    clear hk
    go_wp2_with fail
    refine Calls.mono HTK2.out ?_
    rintro e w4 ⟨rfl, ⟨vl4, hp4⟩, hk4⟩
    have hK4 : Keeps base w w4 := (Keeps.of HB3.out HBW.out).trans hk4
    have ba : Below w4.heap.size w4 (w4.alloc (.cells #[.string xN, .int .i64 xma, .int .i64 xmi, .string xT, .slice xe xle xke, .slice xi2 xli xki, .slice xp xlp xkp, .int .i64 xf] 57)) := (Below.refl _ _).alloc (Nat.le_refl _) _
    have HK5 : Hid (Keeps base w (w4.alloc (.cells #[.string xN, .int .i64 xma, .int .i64 xmi, .string xT, .slice xe xle xke, .slice xi2 xli xki, .slice xp xlp xkp, .int .i64 xf] 57))) := hK4.trans (Keeps.of ba (Nat.le_trans HBW.out hK4.1.size))
    have HP5 : Hid (PackAt base Bp (w4.alloc (.cells #[.string xN, .int .i64 xma, .int .i64 xmi, .string xT, .slice xe xle xke, .slice xi2 xli xki, .slice xp xlp xkp, .int .i64 xf] 57)) 77 K ve vl4 (l.eraseIdx j)) := hp4.below ba
    have HX5 : Hid (CellsAt (w4.alloc (.cells #[.string xN, .int .i64 xma, .int .i64 xmi, .string xT, .slice xe xle xke, .slice xi2 xli xki, .slice xp xlp xkp, .int .i64 xf] 57)) w4.heap.size 57 #[.string xN, .int .i64 xma, .int .i64 xmi, .string xT, .slice xe xle xke, .slice xi2 xli xki, .slice xp xlp xkp, .int .i64 xf]) := CellsAt.new _ _ _
    have HM5 : Hid (CellsAt (w4.alloc (.cells #[.string xN, .int .i64 xma, .int .i64 xmi, .string xT, .slice xe xle xke, .slice xi2 xli xki, .slice xp xlp xkp, .int .i64 xf] 57)) Bm 31 #[.string N, .int .i64 xa, .int .i64 xi, .string T, .slice pe le ke, .slice pi li ki, .slice pp lp kp]) := HM0.out.below HK5.out.1 hmb
    have hbw4 : base ≤ w4.heap.size := Nat.le_trans HBW.out hK4.1.size
    clear hK4 ba hp4 hk4 HTK2 HB3
    have hp4c := HP5.out.1
    obtain ⟨va4, vc4, rfl⟩ := own_form HP5.out.2.2.1
    go_upto_region 8 with fail
    generalize (w4.alloc (.cells #[.string xN, .int .i64 xma, .int .i64 xmi, .string xT, .slice xe xle xke, .slice xi2 xli xki, .slice xp xlp xkp, .int .i64 xf] 57)) = w5 at *
    generalize w4.heap.size = B5 at *
    have q := CellsAt.cell HX5.out 7
    have ql := CellsAt.lt HX5.out
    simp at q
    go_wp2_with fail
    refine Calls.mono (HRM2.out _ w5 HP5.out) ?_
    clear q ql HX5 hp4c
    rintro e w6 ⟨rfl, b6⟩
    have HP6 : Hid (PackAt base Bp w6 77 K ve _ (l.eraseIdx j)) := HP5.out.below b6
    have HK6 : Hid (Keeps base w w6) := HK5.out.trans (Keeps.of b6 (Nat.le_trans HBW.out HK5.out.1.size))
    have HM6 : Hid (CellsAt w6 Bm 31 #[.string N, .int .i64 xa, .int .i64 xi, .string T, .slice pe le ke, .slice pi li ki, .slice pp lp kp]) := HM5.out.below b6 HM5.out.lt
    clear b6 HP5 HK5 HM5 HRM2
    rcases HKK.out with ⟨rfl, rfl⟩ | ⟨f, rfl, rfl⟩
    · clear HPT2 HP6 HM6
      go_wp2
      go_ret
      exact ⟨rfl, HK6.out, fun h => absurd h (by decide)⟩
    · have HPT3 : Hid _ := HPT2.out f _ w6 HK6.out HP6.out
      clear HPT2 HP6
      have m0 := CellsAt.cell HM6.out 0
      have m1 := CellsAt.cell HM6.out 1
      have m2 := CellsAt.cell HM6.out 2
      have m3 := CellsAt.cell HM6.out 3
      have m4 := CellsAt.cell HM6.out 4
      have m5 := CellsAt.cell HM6.out 5
      have m6 := CellsAt.cell HM6.out 6
      have ml := CellsAt.lt HM6.out
      simp at m0 m1 m2 m3 m4 m5 m6
      go_wp2_with fail
      refine Calls.mono HPT3.out ?_
      clear m0 m1 m2 m3 m4 m5 m6 ml
      rintro e w7 ⟨rfl, hdid, hk7⟩
      have HD7 : Hid _ := hdid
      have HK7 : Hid (Keeps base w6 w7) := hk7
      clear hdid hk7 HPT3 HM6
      go_wp2
      go_ret
      exact ⟨rfl, HK6.out.trans HK7.out, fun _ => HD7.out⟩

end Go.Proofs.YtlpnfbpgnfappaaGreat

/- The contract of what package plan's Remove hands to planned. -/
namespace Go.Proofs.YtlpnfbpgnfappaaGreat
open Go.RowKit Go.PlainAid Go.Lib

set_option maxRecDepth 100000

theorem users_some {Ms : List Mod} {name : ByteArray} {f : Nat} {ss : List ByteArray} (h : Comes nxUse Ms f ss) (hf : f < Ms.length) (hn : nameAt Ms f = name) : ss ≠ [] ↔ ∃ m ∈ Ms, asksM m name = true := by
  obtain ⟨_, h⟩ := h
  have hfm : Ms[f]? = some Ms[f] := List.getElem?_eq_getElem hf
  have hnm : Ms[f].name = name := by rw [← hn, nameAt_some hfm]
  constructor
  · intro hne
    cases ss with
    | nil => exact absurd rfl hne
    | cons x r =>
      obtain ⟨k, hv, _⟩ := (h x).1 (by simp)
      obtain ⟨q, a, b, h1, h2, h3⟩ : ∃ q, Next nxUse Ms f q := hv (fun _ => ∃ q, Next nxUse Ms f q) (fun q e => ⟨q, e⟩) (fun _ _ hj _ => hj)
      rw [hfm] at h1
      obtain rfl := Option.some.inj h1
      refine ⟨b, List.mem_of_getElem? h2, ?_⟩
      rw [← hnm]
      exact h3
  · rintro ⟨m, hm, ha⟩ rfl
    obtain ⟨k, hk⟩ := List.mem_iff_getElem?.1 hm
    have := (h (nameAt Ms k)).2 ⟨k, Via.one ⟨Ms[f], m, hfm, hk, by show asksM m Ms[f].name = true; rw [hnm]; exact ha⟩, rfl⟩
    simp at this
theorem rg_graph {K : Ker} {L : List Plc} (h : chkRg K L = 0) : chkGraph L = 0 := by
  obtain ⟨h1, h2, _⟩ := chkRg_zero h
  rcases lnOrd_err (chkLink_zero h1).2.1 with ⟨_, h3⟩ | ⟨_, h3, _⟩
  · omega
  · exact h3
theorem rem_cases (l : List PV) (name : ByteArray) (hg : chkGraph (l.map PV.plc) = 0) :
    (comeErr (l.map PV.plc) name = 5 ∧ remDo (l.map PV.plc) name = ([], 5)) ∨
    (comeErr (l.map PV.plc) name = 0 ∧ (∀ ss, ComeRes nxUse (l.map PV.plc) name ss → ss ≠ []) ∧ remDo (l.map PV.plc) name = ([], 4)) ∨
    (comeErr (l.map PV.plc) name = 0 ∧ (∀ ss, ComeRes nxUse (l.map PV.plc) name ss → ss = []) ∧ ∃ (j : Nat) (x : PV), ixFrom (fun x : PV => x.mod.name == name) 0 l = (j : Int) ∧ l[j]? = some x ∧ remDo (l.map PV.plc) name = ((l.eraseIdx j).map PV.plc, 0)) := by
  have hix := nameIx_pv l name
  rcases come_cases nxUse l name with ⟨h, _⟩ | ⟨_, h1, h2, _⟩ | ⟨_, f, h1, h2, h3, _⟩
  · exact absurd hg h
  · exact .inl ⟨h2, remDo_none (by rw [hix]; exact h1)⟩
  · have hkey : ∀ ss, ComeRes nxUse (l.map PV.plc) name ss → (ss ≠ [] ↔ ∃ m ∈ (l.map PV.plc).map (·.mod), asksM m name = true) := by
      rintro ss (⟨h4, _⟩ | ⟨_, f', h4, h5, h6⟩)
      · exact absurd h3 h4
      · exact users_some h6 (by rw [List.length_map]; exact h4) h5
    have hany : ((l.map PV.plc).any fun p => asksM p.mod name) = true ↔ ∃ m ∈ (l.map PV.plc).map (·.mod), asksM m name = true := by
      rw [List.any_eq_true]
      constructor
      · rintro ⟨p, hp, ha⟩
        exact ⟨p.mod, List.mem_map_of_mem hp, ha⟩
      · rintro ⟨m, hm, ha⟩
        obtain ⟨p, hp, rfl⟩ := List.mem_map.1 hm
        exact ⟨p, hp, ha⟩
    have hr : remDo (l.map PV.plc) name = remAt (l.map PV.plc) name f := remDo_at (by rw [hix]; exact h2)
    unfold remAt at hr
    by_cases ha : ((l.map PV.plc).any fun p => asksM p.mod name) = true
    · rw [if_pos ha] at hr
      exact .inr (.inl ⟨h3, fun ss hs => (hkey ss hs).2 (hany.1 ha), hr⟩)
    · rw [if_neg ha] at hr
      refine .inr (.inr ⟨h3, fun ss hs => ?_, f, l[f], h2, List.getElem?_eq_getElem h1, by rw [hr, erase_mapP]⟩)
      apply Classical.byContradiction
      intro hne
      exact ha (hany.2 ((hkey ss hs).1 hne))

set_option maxHeartbeats 16000000 in
theorem plRem1_any (base Bp Bn : Nat) (K : Ker) (ve vl : Value) (l : List PV) (name : ByteArray) (w : World) (hp : PackAt base Bp w 77 K ve vl l) (hl : Lens l) (hfit : ∀ x ∈ l, x.mod.fits) (hg : chkGraph (l.map PV.plc) = 0) (hb : base ≤ Bp) (hc : CellsAt w Bn 9 #[.string name]) :
    Calls Tryz.prog 41 #[.pointer (some ⟨Bp, 0, none⟩), .pointer (some ⟨Bn, 0, none⟩)] w fun e w' => e = .returned (.int .i64 (remDo (l.map PV.plc) name).2) ∧ Did base Bp K ve w w' (remDo (l.map PV.plc) name) := by
  have hrow := hp.rows hl
  have hbw : base ≤ w.heap.size := by have := hp.1.lt; omega
  have HUS : Hid (∀ W, Below w.heap.size w W → Calls Tryz.prog 42 #[vl, .string name] W fun e w' => (∃ r ss, e = .returned (.tuple #[r, .int .i64 (comeErr (l.map PV.plc) name)]) ∧ RowOf 1 strCell w'.heap.size w' r ss ∧ ComeRes nxUse (l.map PV.plc) name ss) ∧ Below W.heap.size W w') := fun W hb => users_any l vl name W ((hrow.below hb).more hb.size) hfit
  have HFN : Hid (∀ W, Below w.heap.size w W → Calls Tryz.prog 38 #[.pointer (some ⟨Bp, 0, none⟩), .string name] W fun e w' => e = .returned (.int .i64 (ixFrom (fun x : PV => x.mod.name == name) 0 l)) ∧ Below W.heap.size W w') := fun W hb => plFind_any base Bp K ve vl l name W (hp.below hb) hl
  have HTK : Hid (∀ (j : Nat) (x : PV), l[j]? = some x → ∀ W, Below w.heap.size w W → Calls Tryz.prog 43 #[.pointer (some ⟨Bp, 0, none⟩), .int .i64 (j : Int)] W fun e w' => e = .returned x.val ∧ (∃ vl', PackAt base Bp w' 77 K ve vl' (l.eraseIdx j)) ∧ Keeps base W w') := fun j x hx W hb' => plTake_any base Bp K ve vl l j x W (hp.below hb') hl hx hb
  have HFE : Hid (∀ j, ∀ x ∈ l.eraseIdx j, x.mod.fits) := fun j x hx => hfit x (List.mem_of_mem_eraseIdx hx)
  have HLE : Hid (∀ j, Lens (l.eraseIdx j)) := fun j => hl.less j
  have key := rem_cases l name hg
  have hcell := hp.1
  obtain ⟨va, vc, rfl⟩ := own_form hp.2.2.1
  have HC0 : Hid (CellsAt w.drew Bp 77 #[.int .i64 K.major, .int .i64 K.minor, ve, .slice va l.length vc]) := (hcell : CellsAt w _ _ _)
  have HN0 : Hid (CellsAt w.drew Bn 9 #[.string name]) := (hc : CellsAt w _ _ _)
  have HBW : Hid (base ≤ w.heap.size) := hbw
  have HB0 : Hid (Below w.heap.size w w.drew) := (Below.refl _ _).drew
  generalize remDo (l.map PV.plc) name = D at *
  generalize comeErr (l.map PV.plc) name = ce at *
  generalize hCR : ComeRes nxUse (l.map PV.plc) name = CR at *
  generalize ixFrom (fun x : PV => x.mod.name == name) 0 l = ix at *
  have HKEY : Hid _ := key
  clear hp hl hfit hg hrow hcell hc hbw hCR key
  go_enter Tryz.func41, Tryz.ntmps41
  go_upto_region 1 with fail
  refine wp_region_noPanic ?_
  refine wp_region_L (S := fun w' => CellsAt w' Bp 77 #[.int .i64 K.major, .int .i64 K.minor, ve, .slice va l.length vc] ∧ CellsAt w' Bn 9 #[.string name]) (x := 11) (by kernel_rfl) ?_
  generalize w.drew = w0 at *
  have hS0 : CellsAt w0 Bp 77 #[.int .i64 K.major, .int .i64 K.minor, ve, .slice va l.length vc] ∧ CellsAt w0 Bn 9 #[.string name] := ⟨HC0.out, HN0.out⟩
  refine wpL_take 0 7 (.pointer (some ⟨Bp, 0, none⟩)) rfl (by kernel_rfl) (fun _ _ _ h => h) hS0 rfl rfl (fun w' hSw => by clear hSw; go_simp) ?_
  simp only [List.setIfInBounds_toArray, List.set_cons_zero, List.set_cons_succ]
  refine wpL_take 1 8 (.pointer (some ⟨Bp, 0, none⟩)) rfl (by kernel_rfl) (fun _ _ _ h => h) hS0 rfl rfl (fun w' hSw => by clear hSw; go_simp) ?_
  simp only [List.setIfInBounds_toArray, List.set_cons_zero, List.set_cons_succ]
  refine wpL_take 2 9 (.pointer (some ⟨Bp, 0, none⟩)) rfl (by kernel_rfl) (fun _ _ _ h => h) hS0 rfl rfl (fun w' hSw => by clear hSw; go_simp) ?_
  simp only [List.setIfInBounds_toArray, List.set_cons_zero, List.set_cons_succ]
  refine wpL_take 3 10 (.pointer (some ⟨Bp, 3, none⟩)) rfl (by kernel_rfl) (fun _ _ _ h => h) hS0 rfl rfl (fun w' hSw => by clear hSw; go_simp) ?_
  simp only [List.setIfInBounds_toArray, List.set_cons_zero, List.set_cons_succ]
  refine wpL_take 4 11 (.slice va l.length vc) rfl (by kernel_rfl) (fun _ _ _ h => h) hS0 rfl rfl (fun w' hSw => by have q := CellsAt.cell hSw.1 3; simp at q; clear hSw; go_simp) ?_
  simp only [List.setIfInBounds_toArray, List.set_cons_zero, List.set_cons_succ]
  refine wpL_take 5 12 (.string name) rfl (by kernel_rfl) (fun _ _ _ h => h) hS0 rfl rfl (fun w' hSw => by have q := CellsAt.cell hSw.2 0; simp at q; clear hSw; go_simp) ?_
  simp only [List.setIfInBounds_toArray, List.set_cons_zero, List.set_cons_succ]
  clear hS0
  refine wpL_step (i := 6) rfl (by kernel_rfl) (fun Kq hK => ?_)
  go_simp
  refine (HUS.out _ HB0.out).mono ?_
  rintro e w1 ⟨⟨r, ss, rfl, hr, hss⟩, b1⟩
  obtain ⟨ra, rc, rfl, -, -⟩ := hr
  have HB1 : Hid (Below w.heap.size w w1) := HB0.out.trans (b1.mono HB0.out.size)
  have HC1 : Hid (CellsAt w1 Bp 77 #[.int .i64 K.major, .int .i64 K.minor, ve, .slice va l.length vc]) := HC0.out.below b1 HC0.out.lt
  have HN1 : Hid (CellsAt w1 Bn 9 #[.string name]) := HN0.out.below b1 HN0.out.lt
  have HSS : Hid (CR ss) := hss
  clear b1 hss HUS HB0 HC0 HN0
  go_simp
  refine hK.out _ _ ⟨HC1.out, HN1.out⟩ (fun _ => ?_)
  clear hK Kq
  have hS1 : CellsAt w1 Bp 77 #[.int .i64 K.major, .int .i64 K.minor, ve, .slice va l.length vc] ∧ CellsAt w1 Bn 9 #[.string name] := ⟨HC1.out, HN1.out⟩
  refine wpL_take 7 6 (.tuple #[.slice ra ss.length rc, .int .i64 ce]) rfl (by kernel_rfl) (fun _ _ _ h => h) hS1 rfl rfl (fun w' hSw => by clear hSw; go_simp) ?_
  simp only [List.setIfInBounds_toArray, List.set_cons_zero, List.set_cons_succ]
  refine wpL_take 8 14 (.slice ra ss.length rc) rfl (by kernel_rfl) (fun _ _ _ h => h) hS1 rfl rfl (fun w' hSw => by clear hSw; go_simp) ?_
  simp only [List.setIfInBounds_toArray, List.set_cons_zero, List.set_cons_succ]
  refine wpL_take 9 15 (.int .i64 ce) rfl (by kernel_rfl) (fun _ _ _ h => h) hS1 rfl rfl (fun w' hSw => by clear hSw; go_simp) ?_
  simp only [List.setIfInBounds_toArray, List.set_cons_zero, List.set_cons_succ]
  refine wpL_take 10 4 (.slice ra ss.length rc) rfl (by kernel_rfl) (fun _ _ _ h => h) hS1 rfl rfl (fun w' hSw => by clear hSw; go_simp) ?_
  simp only [List.setIfInBounds_toArray, List.set_cons_zero, List.set_cons_succ]
  clear hS1
  refine wpL_last (x := 11) rfl (by kernel_rfl) (by kernel_rfl) (fun Kq hK => ?_)
  go_simp
  refine hK.out _ _ ?_
  refine NoPanic.normal ?_
  clear hK Kq
  rcases HKEY.out with ⟨rfl, rfl⟩ | ⟨rfl, hne, rfl⟩ | ⟨rfl, hnl, j, x, rfl, hx, rfl⟩
  · clear HKEY HTK HFN
    go_wp2
    go_ret
    exact ⟨rfl, Keeps.of HB1.out HBW.out, fun h => absurd h (by decide)⟩
  · have h1 : (0 : Int) < (ss.length : Int) := by
      have := List.length_pos_iff.2 (hne ss HSS.out)
      omega
    clear HKEY HTK HFN hne
    go_wp2
    go_ret
    exact ⟨rfl, Keeps.of HB1.out HBW.out, fun h => absurd h (by decide)⟩
  · obtain rfl : ss = [] := hnl ss HSS.out
    have HTK2 : Hid (∀ W, Below w.heap.size w W → Calls Tryz.prog 43 #[.pointer (some ⟨Bp, 0, none⟩), .int .i64 (j : Int)] W fun e w' => e = .returned x.val ∧ (∃ vl', PackAt base Bp w' 77 K ve vl' (l.eraseIdx j)) ∧ Keeps base W w') := HTK.out j x hx
    clear HKEY HTK hnl HSS hx
    rw [List.length_nil]
    have q := CellsAt.cell HN1.out 0
    have ql := CellsAt.lt HN1.out
    simp at q
    go_wp2_with fail
    refine (HFN.out _ HB1.out).mono ?_
    clear q ql
    rintro e w2 ⟨rfl, b2⟩
    have HB2 : Hid (Below w.heap.size w w2) := HB1.out.trans (b2.mono HB1.out.size)
    clear b2 HB1 HC1 HN1 HFN
    go_wp2_with fail
    refine (HTK2.out _ HB2.out).mono ?_
    rintro e w3 ⟨rfl, hp3, hk3⟩
    have HP3 : Hid (∃ vl', PackAt base Bp w3 77 K ve vl' (l.eraseIdx j)) := hp3
    have HK3 : Hid (Keeps base w w3) := (Keeps.of HB2.out HBW.out).trans hk3
    clear hp3 hk3 HTK2 HB2
    go_wp2
    go_ret
    refine ⟨rfl, HK3.out, fun _ => ?_⟩
    obtain ⟨vl', h3⟩ := HP3.out
    exact ⟨vl', l.eraseIdx j, rfl, HFE.out j, HLE.out j, h3⟩

end Go.Proofs.YtlpnfbpgnfappaaGreat

/- The contracts of package compact's Step and Pack. -/
namespace Go.Proofs.YtlpnfbpgnfappaaGreat
open Go.RowKit Go.PlainAid Go.Lib

set_option maxRecDepth 100000

theorem zeroReg_owns (n : Nat) (W : World) : OwnsReg n W (.agg #[.int .i64 0, .int .i64 0, .slice none 0 0, .slice none 0 0]) emptyK [] := ⟨_, _, rfl, World.ownsRow_nil _ _ _ _, World.ownsRow_nil _ _ _ _, fun x hx => by simp at hx⟩
theorem OwnsReg.beCell {base B : Nat} {W W' : World} {v : Value} {K : Ker} {l : List PV} {t : TypeId} {cs : Array Value} (h : OwnsReg base W v K l) (hc : CellsAt W B t cs) (h1 : 129 ≠ t) (h2 : 106 ≠ t) (h3 : 113 ≠ t) (h4 : 57 ≠ t) (hg : W.grownBy W' (some B)) : OwnsReg base W' v K l := by
  obtain ⟨ve, vl, e, o1, o2, o3⟩ := h
  exact ⟨ve, vl, e, o1.kept hg (.inr (own_ne_cells o1 hc h1)), o2.kept hg (.inr (own_ne_cells o2 hc h4)), fun x hx => (o3 x hx).beCell hc h1 h2 h3 hg⟩
theorem OwnsReg.below {base : Nat} {W W' : World} {v : Value} {K : Ker} {l : List PV} (h : OwnsReg base W v K l) (hb : Below W.heap.size W W') : OwnsReg base W' v K l := by
  obtain ⟨ve, vl, e, o1, o2, o3⟩ := h
  exact ⟨ve, vl, e, own_below o1 hb, own_below o2 hb, fun x hx => (o3 x hx).below hb⟩
theorem OwnsReg.lower {base b : Nat} {W : World} {v : Value} {K : Ker} {l : List PV} (h : OwnsReg base W v K l) (hb : b ≤ base) : OwnsReg b W v K l := by
  obtain ⟨ve, vl, e, o1, o2, o3⟩ := h
  exact ⟨ve, vl, e, own_down o1 hb, own_down o2 hb, fun x hx => (o3 x hx).lower hb⟩

end Go.Proofs.YtlpnfbpgnfappaaGreat

/- The contract of package plan's planned, whatever it is handed. -/
namespace Go.Proofs.YtlpnfbpgnfappaaGreat
open Go.RowKit Go.PlainAid Go.Lib

set_option maxRecDepth 100000

/-- What planned answers. -/
def planRes (K : Ker) (L : List Plc) (D : List Plc × Int) : (Ker × List Plc) × Int :=
  if chkRg K L ≠ 0 then ((emptyK, []), chkRg K L) else if D.2 ≠ 0 then ((emptyK, []), D.2) else if chkRg K D.1 ≠ 0 then ((emptyK, []), chkRg K D.1) else ((K, D.1), 0)
theorem plan_cases (K : Ker) (L : List Plc) (D : List Plc × Int) :
    (chkRg K L ≠ 0 ∧ planRes K L D = ((emptyK, []), chkRg K L)) ∨ (chkRg K L = 0 ∧ D.2 ≠ 0 ∧ planRes K L D = ((emptyK, []), D.2)) ∨
    (chkRg K L = 0 ∧ D.2 = 0 ∧ chkRg K D.1 ≠ 0 ∧ planRes K L D = ((emptyK, []), chkRg K D.1)) ∨ (chkRg K L = 0 ∧ D.2 = 0 ∧ chkRg K D.1 = 0 ∧ planRes K L D = ((K, D.1), 0)) := by
  unfold planRes
  by_cases h1 : chkRg K L = 0
  · by_cases h2 : D.2 = 0
    · by_cases h3 : chkRg K D.1 = 0
      · exact .inr (.inr (.inr ⟨h1, h2, h3, by rw [if_neg (by omega), if_neg (by omega), if_neg (by omega)]⟩))
      · exact .inr (.inr (.inl ⟨h1, h2, h3, by rw [if_neg (by omega), if_neg (by omega), if_pos h3]⟩))
    · exact .inr (.inl ⟨h1, h2, by rw [if_neg (by omega), if_pos h2]⟩)
  · exact .inl ⟨h1, by rw [if_pos h1]⟩
theorem pack_reg {base Bp : Nat} {W : World} {t : TypeId} {K : Ker} {ve vl : Value} {l : List PV} (hp : PackAt base Bp W t K ve vl l) (hl : Lens l) (hk : K.exps.length ≤ 255) : IsReg W.heap.size W (.agg #[.int .i64 K.major, .int .i64 K.minor, ve, vl]) K l :=
  ⟨ve, vl, rfl, own_rows (C := expC) (cells := Exp.cell) (sz := 2) (fun _ => rfl) expC_at hp.2.1 (by omega), hp.rows hl⟩

set_option maxHeartbeats 16000000 in
theorem planned_any (K : Ker) (l : List PV) (v : Value) (w : World) (hreg : IsReg w.heap.size w v K l) (hf : K.fits) (hfit : ∀ x ∈ l, x.mod.fits) (Kf : FuncId) (cap : Value) (hK : ∀ W x, Sem.run Tryz.prog (callFunc Kf #[x, cap]) W = .ok (.enter Kf #[x, cap]) W) (D : List Plc × Int)
    (hdo : chkRg K (l.map PV.plc) = 0 → ∀ (W : World) (Bp : Nat) (ve vl : Value) (l0 : List PV), Below w.heap.size w W → w.heap.size ≤ Bp → PackAt w.heap.size Bp W 77 K ve vl l0 → l0.map PV.plc = l.map PV.plc → (∀ x ∈ l0, x.mod.fits) → Lens l0 → l0.length ≤ 8 →
      Calls Tryz.prog Kf #[.pointer (some ⟨Bp, 0, none⟩), cap] W fun e w' => e = .returned (.int .i64 D.2) ∧ Did w.heap.size Bp K ve W w' D) :
    Calls Tryz.prog 36 #[v, .func (.func Kf) #[] #[cap]] w fun e w' => (∃ (v' : Value) (l' : List PV), e = .returned (.tuple #[v', .int .i64 (planRes K (l.map PV.plc) D).2]) ∧ l'.map PV.plc = (planRes K (l.map PV.plc) D).1.2 ∧ (∀ x ∈ l', x.mod.fits) ∧ OwnsReg w.heap.size w' v' (planRes K (l.map PV.plc) D).1.1 l') ∧ Below w.heap.size w w' := by
  have HCK : Hid (∀ W, Below w.heap.size w W → Calls Tryz.prog 68 #[v] W fun e w' => e = .returned (.int .i64 (chkRg K (l.map PV.plc))) ∧ Below W.heap.size W w') := fun W hb => regCheck_any K l v W ((hreg.below hb).more hb.size) hf hfit
  have HCP : Hid (chkRg K (l.map PV.plc) = 0 → ∀ W, Below w.heap.size w W → Calls Tryz.prog 91 #[v] W fun e w' => (∃ v' l', e = .returned v' ∧ l'.map PV.plc = l.map PV.plc ∧ OwnsReg W.heap.size w' v' K l') ∧ Below W.heap.size W w') := fun h W hb => by
    obtain ⟨h1, h2, h3, _⟩ := rg_lens h
    exact copyReg_any K l v W ((hreg.below hb).more hb.size) h1 h2 h3
  have HC2 : Hid (chkRg K (l.map PV.plc) = 0 → ∀ (Bp : Nat) (ve vl' : Value) (l' : List PV) (W : World), PackAt w.heap.size Bp W 77 K ve vl' l' → Lens l' → (∀ x ∈ l', x.mod.fits) → l'.map PV.plc = D.1 → Calls Tryz.prog 68 #[.agg #[.int .i64 K.major, .int .i64 K.minor, ve, vl']] W fun e w' => e = .returned (.int .i64 (chkRg K D.1)) ∧ Below W.heap.size W w') := fun h Bp ve vl' l' W hp hl hft hpl => by
    obtain ⟨h1, _⟩ := rg_lens h
    have := regCheck_any K l' _ W (pack_reg hp hl h1) hf hft
    rw [hpl] at this
    exact this
  have HLN : Hid (chkRg K (l.map PV.plc) = 0 → ∀ l0 : List PV, l0.map PV.plc = l.map PV.plc → Lens l0 ∧ l0.length ≤ 8) := fun h l0 hpl => by
    have h0 : chkRg K (l0.map PV.plc) = 0 := by rw [hpl]; exact h
    have h1 := (rg_lens h0).2.2
    have h2 := reg_lens h1.2
    exact ⟨⟨by omega, h1.1⟩, h2.1⟩
  have HDO : Hid (chkRg K (l.map PV.plc) = 0 → ∀ (W : World) (Bp : Nat) (ve vl : Value) (l0 : List PV), Below w.heap.size w W → w.heap.size ≤ Bp → PackAt w.heap.size Bp W 77 K ve vl l0 → l0.map PV.plc = l.map PV.plc → (∀ x ∈ l0, x.mod.fits) → Lens l0 → l0.length ≤ 8 →
      Calls Tryz.prog Kf #[.pointer (some ⟨Bp, 0, none⟩), cap] W fun e w' => e = .returned (.int .i64 D.2) ∧ Did w.heap.size Bp K ve W w' D) := hdo
  have key := plan_cases K (l.map PV.plc) D
  obtain ⟨ve, vl, rfl, hE, hL⟩ := hreg
  obtain ⟨qe, je, rfl, -, -⟩ := hE
  obtain ⟨⟨a, cap', rfl, -, -⟩, -⟩ := hL
  obtain ⟨PR, hPR⟩ : ∃ PR, PR = planRes K (l.map PV.plc) D := ⟨_, rfl⟩
  rw [← hPR] at key ⊢
  obtain ⟨⟨PK, PL⟩, pe⟩ := PR
  dsimp only
  generalize hcr : chkRg K (l.map PV.plc) = cr at *
  generalize hc2 : chkRg K D.1 = c2 at *
  generalize K.exps.length = lk at *
  have HFT0 : Hid (∀ x ∈ l, x.mod.fits) := hfit
  have HB1 : Hid (Below w.heap.size w ((w.alloc (.cells #[.int .i64 K.major, .int .i64 K.minor, .slice qe lk je, .slice a l.length cap'] 27)).alloc (.cells #[.int .i64 0, .int .i64 0, .slice none 0 0, .slice none 0 0] 27))) := ((Below.refl _ _).alloc (Nat.le_refl _) _).alloc (by simp) _
  have HC1 : Hid (CellsAt ((w.alloc (.cells #[.int .i64 K.major, .int .i64 K.minor, .slice qe lk je, .slice a l.length cap'] 27)).alloc (.cells #[.int .i64 0, .int .i64 0, .slice none 0 0, .slice none 0 0] 27)) w.heap.size 27 #[.int .i64 K.major, .int .i64 K.minor, .slice qe lk je, .slice a l.length cap']) := (CellsAt.new _ _ _).kept (World.grownBy_alloc _ _ none) (by simp)
  have HZ1 : Hid (CellsAt ((w.alloc (.cells #[.int .i64 K.major, .int .i64 K.minor, .slice qe lk je, .slice a l.length cap'] 27)).alloc (.cells #[.int .i64 0, .int .i64 0, .slice none 0 0, .slice none 0 0] 27)) (w.heap.size + 1) 27 #[.int .i64 0, .int .i64 0, .slice none 0 0, .slice none 0 0]) := by
    have := CellsAt.new (w.alloc (.cells #[.int .i64 K.major, .int .i64 K.minor, .slice qe lk je, .slice a l.length cap'] 27)) 27 #[.int .i64 0, .int .i64 0, .slice none 0 0, .slice none 0 0]
    rw [World.size_alloc] at this
    exact this
  clear hdo hcr hc2 hfit hf hPR
  have HKEY : Hid _ := key
  clear key
  go_enter Tryz.func36, Tryz.ntmps36
  go_wp2_with fail
  refine (HCK.out _ HB1.out).mono ?_
  generalize ((w.alloc (.cells #[.int .i64 K.major, .int .i64 K.minor, .slice qe lk je, .slice a l.length cap'] 27)).alloc (.cells #[.int .i64 0, .int .i64 0, .slice none 0 0, .slice none 0 0] 27)) = w1 at *
  rintro e w2 ⟨rfl, b2⟩
  have HB2 : Hid (Below w.heap.size w w2) := HB1.out.trans (b2.mono HB1.out.size)
  have HCC2 : Hid (CellsAt w2 w.heap.size 27 #[.int .i64 K.major, .int .i64 K.minor, .slice qe lk je, .slice a l.length cap']) := HC1.out.below b2 HC1.out.lt
  have HZ2 : Hid (CellsAt w2 (w.heap.size + 1) 27 #[.int .i64 0, .int .i64 0, .slice none 0 0, .slice none 0 0]) := HZ1.out.below b2 HZ1.out.lt
  clear b2 HB1 HC1 HZ1 HCK
  by_cases hcr0 : cr ≠ 0
  · have h' : (cr != 0) = true := by simpa using hcr0
    obtain ⟨e1, e2, e3⟩ : PK = emptyK ∧ PL = [] ∧ pe = cr := by
      rcases HKEY.out with ⟨_, h⟩ | ⟨h, _⟩ | ⟨h, _⟩ | ⟨h, _⟩
      · injection h with h1 h2
        injection h1 with h1 h3
        exact ⟨h1, h3, h2⟩
      · exact absurd h hcr0
      · exact absurd h hcr0
      · exact absurd h hcr0
    subst e1 e2 e3
    have z0 := CellsAt.cell HZ2.out 0
    have z1 := CellsAt.cell HZ2.out 1
    have z2 := CellsAt.cell HZ2.out 2
    have z3 := CellsAt.cell HZ2.out 3
    have f0 := CellsAt.frozen HZ2.out 0
    have f1 := CellsAt.frozen HZ2.out 1
    have f2 := CellsAt.frozen HZ2.out 2
    have f3 := CellsAt.frozen HZ2.out 3
    have lz := CellsAt.lt HZ2.out
    simp at z0 z1 z2 z3
    clear hcr0 HCP HDO HCC2 HC2 HLN HKEY HFT0
    go_wp2
    have hZ9 := sets4 HZ2.out (.int .i64 0) (.int .i64 0) (.slice none 0 0) (.slice none 0 0)
    have hG9 := sets4_grown w2 (w.heap.size + 1) (.int .i64 0) (.int .i64 0) (.slice none 0 0) (.slice none 0 0)
    refine bodyPost_ret (results_cell_tmp_row rfl _ _ _ _ _ _ _ rfl hZ9 Tryz.underlying27 rfl (by kernel_rfl)) rfl ?_
    exact ⟨⟨_, [], rfl, rfl, fun x hx => by simp at hx, zeroReg_owns _ _⟩, HB2.out.grown hG9 HB2.out.size (fun q hq => by obtain rfl := Option.some.inj hq; exact Nat.le_succ _)⟩
  · obtain rfl : cr = 0 := Decidable.not_not.1 hcr0
    have HCP2 : Hid (∀ W, Below w.heap.size w W → Calls Tryz.prog 91 #[.agg #[.int .i64 K.major, .int .i64 K.minor, .slice qe lk je, .slice a l.length cap']] W fun e w' => (∃ v' l', e = .returned v' ∧ l'.map PV.plc = l.map PV.plc ∧ OwnsReg W.heap.size w' v' K l') ∧ Below W.heap.size W w') := HCP.out (by first | rfl | trivial)
    have HDD : Hid (∀ (W : World) (Bp : Nat) (ve vl : Value) (l0 : List PV), Below w.heap.size w W → w.heap.size ≤ Bp → PackAt w.heap.size Bp W 77 K ve vl l0 → l0.map PV.plc = l.map PV.plc → (∀ x ∈ l0, x.mod.fits) → Lens l0 → l0.length ≤ 8 →
      Calls Tryz.prog Kf #[.pointer (some ⟨Bp, 0, none⟩), cap] W fun e w' => e = .returned (.int .i64 D.2) ∧ Did w.heap.size Bp K ve W w' D) := HDO.out (by first | rfl | trivial)
    have HC3 : Hid (∀ (Bp : Nat) (ve vl' : Value) (l' : List PV) (W : World), PackAt w.heap.size Bp W 77 K ve vl' l' → Lens l' → (∀ x ∈ l', x.mod.fits) → l'.map PV.plc = D.1 → Calls Tryz.prog 68 #[.agg #[.int .i64 K.major, .int .i64 K.minor, ve, vl']] W fun e w' => e = .returned (.int .i64 c2) ∧ Below W.heap.size W w') := HC2.out (by first | rfl | trivial)
    have HLN2 : Hid (∀ l0 : List PV, l0.map PV.plc = l.map PV.plc → Lens l0 ∧ l0.length ≤ 8) := HLN.out (by first | rfl | trivial)
    have c0 := CellsAt.cell HCC2.out 0
    have c1 := CellsAt.cell HCC2.out 1
    have c2' := CellsAt.cell HCC2.out 2
    have c3 := CellsAt.cell HCC2.out 3
    have lc := CellsAt.lt HCC2.out
    simp at c0 c1 c2' c3
    clear HCP HDO HC2 HLN hcr0
    go_wp2_with fail
    refine (HCP2.out _ HB2.out).mono ?_
    rintro e w3 ⟨⟨v3, l0, rfl, hpl, ho⟩, b3⟩
    obtain ⟨ve3, vl3, rfl, oe3, ol3, op3⟩ := ho
    obtain ⟨ea, ec, rfl⟩ := own_form oe3
    obtain ⟨pa, pc, rfl⟩ := own_form ol3
    have LB : w.heap.size ≤ w2.heap.size := HB2.out.size
    have LZ : w.heap.size + 1 < w3.heap.size := Nat.lt_of_lt_of_le HZ2.out.lt b3.size
    have hB4 : Below w.heap.size w (w3.alloc (.cells #[.int .i64 K.major, .int .i64 K.minor, .slice ea K.exps.length ec, .slice pa l0.length pc] 77)) := by
      have := HB2.out.trans (b3.mono HB2.out.size)
      exact this.alloc this.size _
    have HB4 : Hid (Below w.heap.size w (w3.alloc (.cells #[.int .i64 K.major, .int .i64 K.minor, .slice ea K.exps.length ec, .slice pa l0.length pc] 77))) := hB4
    have HZ4 : Hid (CellsAt (w3.alloc (.cells #[.int .i64 K.major, .int .i64 K.minor, .slice ea K.exps.length ec, .slice pa l0.length pc] 77)) (w.heap.size + 1) 27 #[.int .i64 0, .int .i64 0, .slice none 0 0, .slice none 0 0]) := (HZ2.out.below b3 HZ2.out.lt).kept (World.grownBy_alloc _ _ none) (by simp)
    have HP4 : Hid (PackAt w.heap.size w3.heap.size (w3.alloc (.cells #[.int .i64 K.major, .int .i64 K.minor, .slice ea K.exps.length ec, .slice pa l0.length pc] 77)) 77 K (.slice ea K.exps.length ec) (.slice pa l0.length pc) l0) := ⟨CellsAt.new _ _ _, (own_down oe3 LB).alloc _, (own_down ol3 LB).alloc _, fun x hx => ((op3 x hx).lower LB).below ((Below.refl _ _).alloc (Nat.le_refl _) _)⟩
    have HPL : Hid (l0.map PV.plc = l.map PV.plc) := hpl
    have HFT : Hid (∀ x ∈ l0, x.mod.fits) := fits_mods (mods_plc hpl) HFT0.out
    clear b3 HB2 HZ2 HCC2 HCP2 HFT0 oe3 ol3 op3 hpl c0 c1 c2' c3 lc hB4
    generalize hkl : K.exps.length = ke at *
    have LW3 : w.heap.size ≤ w3.heap.size := by omega
    go_wp2_with fail
    generalize (w3.alloc (.cells #[.int .i64 K.major, .int .i64 K.minor, .slice ea ke ec, .slice pa l0.length pc] 77)) = w4 at *
    generalize w3.heap.size = Bp at *
    refine (HDD.out w4 Bp _ _ l0 HB4.out LW3 HP4.out HPL.out HFT.out (HLN2.out l0 HPL.out).1 (HLN2.out l0 HPL.out).2).mono ?_
    rintro e w5 ⟨rfl, hk5, hd5⟩
    have HZ5 : Hid (CellsAt w5 (w.heap.size + 1) 27 #[.int .i64 0, .int .i64 0, .slice none 0 0, .slice none 0 0]) := hk5.2 _ _ HZ4.out.lt HZ4.out
    have HB5 : Hid (Below w.heap.size w w5) := HB4.out.trans hk5.1
    have HD5 : Hid (D.2 = 0 → ∃ vl' l', l'.map PV.plc = D.1 ∧ (∀ x ∈ l', x.mod.fits) ∧ Lens l' ∧ PackAt w.heap.size Bp w5 77 K (.slice ea ke ec) vl' l') := hd5
    clear HDD HB4 HZ4 HP4 HFT HPL HLN2 hk5 hd5
    have hkey := HKEY.out
    rcases hkey with ⟨h, _⟩ | ⟨_, hd, hpr⟩ | ⟨_, hd, hc, hpr⟩ | ⟨_, hd, hc, hpr⟩
    · exact absurd rfl h
    · injection hpr with h1 h2
      injection h1 with h1 h3
      subst h1 h3
      rw [← h2] at hd ⊢
      have hd' : (pe != 0) = true := by simpa using hd
      have z0 := CellsAt.cell HZ5.out 0
      have z1 := CellsAt.cell HZ5.out 1
      have z2 := CellsAt.cell HZ5.out 2
      have z3 := CellsAt.cell HZ5.out 3
      have f0 := CellsAt.frozen HZ5.out 0
      have f1 := CellsAt.frozen HZ5.out 1
      have f2 := CellsAt.frozen HZ5.out 2
      have f3 := CellsAt.frozen HZ5.out 3
      have lz := CellsAt.lt HZ5.out
      simp at z0 z1 z2 z3
      clear hd HD5 HC3 HKEY h2 hkl
      go_wp2
      have hZ9 := sets4 HZ5.out (.int .i64 0) (.int .i64 0) (.slice none 0 0) (.slice none 0 0)
      have hG9 := sets4_grown w5 (w.heap.size + 1) (.int .i64 0) (.int .i64 0) (.slice none 0 0) (.slice none 0 0)
      refine bodyPost_ret (results_cell_tmp_row rfl _ _ _ _ _ _ _ rfl hZ9 Tryz.underlying27 rfl (by kernel_rfl)) rfl ?_
      exact ⟨⟨_, [], rfl, rfl, fun x hx => by simp at hx, zeroReg_owns _ _⟩, HB5.out.grown hG9 HB5.out.size (fun q hq => by obtain rfl := Option.some.inj hq; exact Nat.le_succ _)⟩
    all_goals
      obtain ⟨vl', l', hpl, hft, hln, hp5⟩ := HD5.out hd
      rw [hd]
      obtain ⟨na, nc, rfl⟩ := own_form hp5.2.2.1
      have HP5 : Hid (PackAt w.heap.size Bp w5 77 K (.slice ea ke ec) (.slice na l'.length nc) l') := hp5
      have HLN5 : Hid (Lens l') := hln
      have HFT5 : Hid (∀ x ∈ l', x.mod.fits) := hft
      have HPL5 : Hid (l'.map PV.plc = D.1) := hpl
      have p0 := CellsAt.cell hp5.1 0
      have p1 := CellsAt.cell hp5.1 1
      have p2 := CellsAt.cell hp5.1 2
      have p3 := CellsAt.cell hp5.1 3
      have lp := CellsAt.lt hp5.1
      simp at p0 p1 p2 p3
      clear HD5 HKEY hd hp5 hln hft hpl
      injection hpr with h1 h2
      injection h1 with h1 h3
      replace h1 := h1.symm
      replace h2 := h2.symm
      subst h1 h2
      have HPR : Hid (PL = _) := h3
      clear h3
      go_wp2_with fail
      refine (HC3.out Bp _ _ l' w5 HP5.out HLN5.out HFT5.out HPL5.out).mono ?_
      clear p0 p1 p2 p3 lp
      rintro e w6 ⟨rfl, b6⟩
      have HB6 : Hid (Below w.heap.size w w6) := HB5.out.trans (b6.mono HB5.out.size)
      have HZ6 : Hid (CellsAt w6 (w.heap.size + 1) 27 #[.int .i64 0, .int .i64 0, .slice none 0 0, .slice none 0 0]) := HZ5.out.below b6 HZ5.out.lt
      have HP6 : Hid (PackAt w.heap.size Bp w6 77 K (.slice ea ke ec) (.slice na l'.length nc) l') := HP5.out.below b6
      clear b6 HB5 HZ5 HP5 HC3
      have z0 := CellsAt.cell HZ6.out 0
      have z1 := CellsAt.cell HZ6.out 1
      have z2 := CellsAt.cell HZ6.out 2
      have z3 := CellsAt.cell HZ6.out 3
      have f0 := CellsAt.frozen HZ6.out 0
      have f1 := CellsAt.frozen HZ6.out 1
      have f2 := CellsAt.frozen HZ6.out 2
      have f3 := CellsAt.frozen HZ6.out 3
      have lz := CellsAt.lt HZ6.out
      simp at z0 z1 z2 z3
    · have hc' : (c2 != 0) = true := by simpa using hc
      obtain rfl := HPR.out
      clear hc HPR HP6 HLN5 HFT5 HPL5
      go_wp2
      have hZ9 := sets4 HZ6.out (.int .i64 0) (.int .i64 0) (.slice none 0 0) (.slice none 0 0)
      have hG9 := sets4_grown w6 (w.heap.size + 1) (.int .i64 0) (.int .i64 0) (.slice none 0 0) (.slice none 0 0)
      refine bodyPost_ret (results_cell_tmp_row rfl _ _ _ _ _ _ _ rfl hZ9 Tryz.underlying27 rfl (by kernel_rfl)) rfl ?_
      exact ⟨⟨_, [], rfl, rfl, fun x hx => by simp at hx, zeroReg_owns _ _⟩, HB6.out.grown hG9 HB6.out.size (fun q hq => by obtain rfl := Option.some.inj hq; exact Nat.le_succ _)⟩
    · subst hc
      have p0 := CellsAt.cell HP6.out.1 0
      have p1 := CellsAt.cell HP6.out.1 1
      have p2 := CellsAt.cell HP6.out.1 2
      have p3 := CellsAt.cell HP6.out.1 3
      have lp := CellsAt.lt HP6.out.1
      simp at p0 p1 p2 p3
      go_wp2
      have hZ9 := sets4 HZ6.out (.int .i64 K.major) (.int .i64 K.minor) (.slice ea ke ec) (.slice na l'.length nc)
      have hG9 := sets4_grown w6 (w.heap.size + 1) (.int .i64 K.major) (.int .i64 K.minor) (.slice ea ke ec) (.slice na l'.length nc)
      refine bodyPost_ret (results_cell_tmp_row rfl _ _ _ _ _ _ _ rfl hZ9 Tryz.underlying27 rfl (by kernel_rfl)) rfl ?_
      refine ⟨⟨_, l', rfl, HPL5.out.trans HPR.out.symm, HFT5.out, _, _, rfl, ?_, ?_, fun x hx => (HP6.out.2.2.2 x hx).beCell HZ6.out (by decide) (by decide) (by decide) hG9⟩, HB6.out.grown hG9 HB6.out.size (fun q hq => by obtain rfl := Option.some.inj hq; exact Nat.le_succ _)⟩
      · exact HP6.out.2.1.kept hG9 (.inr (own_ne_cells HP6.out.2.1 HZ6.out (by decide)))
      · exact HP6.out.2.2.1.kept hG9 (.inr (own_ne_cells HP6.out.2.2.1 HZ6.out (by decide)))

end Go.Proofs.YtlpnfbpgnfappaaGreat

/- The contracts of package plan's Install, Remove and Upgrade. Printed by genplk.py. -/
namespace Go.Proofs.YtlpnfbpgnfappaaGreat
open Go.RowKit Go.PlainAid Go.Lib

set_option maxRecDepth 100000

set_option maxHeartbeats 16000000 in
theorem plInstall_any (K : Ker) (l : List PV) (v : Value) (M : Mod) (vm : Value) (w : World) (hreg : IsReg w.heap.size w v K l) (hf : K.fits) (hfit : ∀ x ∈ l, x.mod.fits) (hm : IsMod w.heap.size w vm M) (hmf : M.fits) :
    Calls Tryz.prog 6 #[v, vm] w fun e w' => (∃ (v' : Value) (l' : List PV), e = .returned (.tuple #[v', .int .i64 (planRes K (l.map PV.plc) (instDo (l.map PV.plc) M)).2]) ∧ l'.map PV.plc = (planRes K (l.map PV.plc) (instDo (l.map PV.plc) M)).1.2 ∧ (∀ x ∈ l', x.mod.fits) ∧ OwnsReg w.heap.size w' v' (planRes K (l.map PV.plc) (instDo (l.map PV.plc) M)).1.1 l') ∧ Below w.heap.size w w' := by
  have HR0 : Hid (IsReg w.heap.size w v K l) := hreg
  obtain ⟨ve, vl, rfl, hE, hL⟩ := hreg
  obtain ⟨qe, je, rfl, -, -⟩ := hE
  obtain ⟨⟨a, cap, rfl, -, -⟩, -⟩ := hL
  generalize hlk : K.exps.length = lk at *
  have HM0 : Hid (IsMod w.heap.size w vm M) := hm
  obtain ⟨vxe, vxi, vxp, rfl, hxE, hxI, hxP⟩ := hm
  obtain ⟨pe, ke, e4, -⟩ := hxE
  obtain ⟨pi, ki, e5, -⟩ := hxI
  obtain ⟨pp, kp, e6, -⟩ := hxP
  subst e4 e5 e6
  have hB1 : Below w.heap.size w (((w.alloc (.cells #[.int .i64 K.major, .int .i64 K.minor, .slice qe lk je, .slice a l.length cap] 27)).alloc (.cells #[.string M.name, .int .i64 M.major, .int .i64 M.minor, .string M.text, .slice pe M.exps.length ke, .slice pi M.imps.length ki, .slice pp M.pats.length kp] 31)).alloc (.cells #[.int .i64 0, .int .i64 0, .slice none 0 0, .slice none 0 0] 27)) := (((Below.refl _ _).alloc (Nat.le_refl _) _).alloc (by simp) _).alloc (by simp; omega) _
  have hC1 : CellsAt (((w.alloc (.cells #[.int .i64 K.major, .int .i64 K.minor, .slice qe lk je, .slice a l.length cap] 27)).alloc (.cells #[.string M.name, .int .i64 M.major, .int .i64 M.minor, .string M.text, .slice pe M.exps.length ke, .slice pi M.imps.length ki, .slice pp M.pats.length kp] 31)).alloc (.cells #[.int .i64 0, .int .i64 0, .slice none 0 0, .slice none 0 0] 27)) w.heap.size 27 #[.int .i64 K.major, .int .i64 K.minor, .slice qe lk je, .slice a l.length cap] := ((CellsAt.new w 27 #[.int .i64 K.major, .int .i64 K.minor, .slice qe lk je, .slice a l.length cap]).kept (World.grownBy_alloc _ _ none) (by simp)).kept (World.grownBy_alloc _ _ none) (by simp)
  have hD1 : CellsAt (((w.alloc (.cells #[.int .i64 K.major, .int .i64 K.minor, .slice qe lk je, .slice a l.length cap] 27)).alloc (.cells #[.string M.name, .int .i64 M.major, .int .i64 M.minor, .string M.text, .slice pe M.exps.length ke, .slice pi M.imps.length ki, .slice pp M.pats.length kp] 31)).alloc (.cells #[.int .i64 0, .int .i64 0, .slice none 0 0, .slice none 0 0] 27)) (w.heap.size + 1) 31 #[.string M.name, .int .i64 M.major, .int .i64 M.minor, .string M.text, .slice pe M.exps.length ke, .slice pi M.imps.length ki, .slice pp M.pats.length kp] := by
    have := (CellsAt.new (w.alloc (.cells #[.int .i64 K.major, .int .i64 K.minor, .slice qe lk je, .slice a l.length cap] 27)) 31 #[.string M.name, .int .i64 M.major, .int .i64 M.minor, .string M.text, .slice pe M.exps.length ke, .slice pi M.imps.length ki, .slice pp M.pats.length kp]).kept (World.grownBy_alloc _ (.cells #[.int .i64 0, .int .i64 0, .slice none 0 0, .slice none 0 0] 27) none) (by simp)
    rw [World.size_alloc] at this
    exact this
  have hZ1 : CellsAt (((w.alloc (.cells #[.int .i64 K.major, .int .i64 K.minor, .slice qe lk je, .slice a l.length cap] 27)).alloc (.cells #[.string M.name, .int .i64 M.major, .int .i64 M.minor, .string M.text, .slice pe M.exps.length ke, .slice pi M.imps.length ki, .slice pp M.pats.length kp] 31)).alloc (.cells #[.int .i64 0, .int .i64 0, .slice none 0 0, .slice none 0 0] 27)) (w.heap.size + 2) 27 #[.int .i64 0, .int .i64 0, .slice none 0 0, .slice none 0 0] := by
    have := CellsAt.new ((w.alloc (.cells #[.int .i64 K.major, .int .i64 K.minor, .slice qe lk je, .slice a l.length cap] 27)).alloc (.cells #[.string M.name, .int .i64 M.major, .int .i64 M.minor, .string M.text, .slice pe M.exps.length ke, .slice pi M.imps.length ki, .slice pp M.pats.length kp] 31)) 27 #[.int .i64 0, .int .i64 0, .slice none 0 0, .slice none 0 0]
    rw [World.size_alloc, World.size_alloc] at this
    exact this
  have hs1 : ((((w.alloc (.cells #[.int .i64 K.major, .int .i64 K.minor, .slice qe lk je, .slice a l.length cap] 27)).alloc (.cells #[.string M.name, .int .i64 M.major, .int .i64 M.minor, .string M.text, .slice pe M.exps.length ke, .slice pi M.imps.length ki, .slice pp M.pats.length kp] 31)).alloc (.cells #[.int .i64 0, .int .i64 0, .slice none 0 0, .slice none 0 0] 27))).heap.size = w.heap.size + 3 := by simp
  obtain ⟨PR, hPR⟩ : ∃ PR, PR = planRes K (l.map PV.plc) (instDo (l.map PV.plc) M) := ⟨_, rfl⟩
  rw [← hPR]
  have HPK : Hid (Calls Tryz.prog 36 #[.agg #[.int .i64 K.major, .int .i64 K.minor, .slice qe lk je, .slice a l.length cap], .func (.func 37) #[] #[.pointer (some ⟨w.heap.size + 1, 0, none⟩)]] (((w.alloc (.cells #[.int .i64 K.major, .int .i64 K.minor, .slice qe lk je, .slice a l.length cap] 27)).alloc (.cells #[.string M.name, .int .i64 M.major, .int .i64 M.minor, .string M.text, .slice pe M.exps.length ke, .slice pi M.imps.length ki, .slice pp M.pats.length kp] 31)).alloc (.cells #[.int .i64 0, .int .i64 0, .slice none 0 0, .slice none 0 0] 27)) fun e w' => (∃ (v' : Value) (l' : List PV), e = .returned (.tuple #[v', .int .i64 PR.2]) ∧ l'.map PV.plc = PR.1.2 ∧ (∀ x ∈ l', x.mod.fits) ∧ OwnsReg (w.heap.size + 3) w' v' PR.1.1 l') ∧ Below (w.heap.size + 3) (((w.alloc (.cells #[.int .i64 K.major, .int .i64 K.minor, .slice qe lk je, .slice a l.length cap] 27)).alloc (.cells #[.string M.name, .int .i64 M.major, .int .i64 M.minor, .string M.text, .slice pe M.exps.length ke, .slice pi M.imps.length ki, .slice pp M.pats.length kp] 31)).alloc (.cells #[.int .i64 0, .int .i64 0, .slice none 0 0, .slice none 0 0] 27)) w') := by
    have h := planned_any K l (.agg #[.int .i64 K.major, .int .i64 K.minor, .slice qe lk je, .slice a l.length cap]) (((w.alloc (.cells #[.int .i64 K.major, .int .i64 K.minor, .slice qe lk je, .slice a l.length cap] 27)).alloc (.cells #[.string M.name, .int .i64 M.major, .int .i64 M.minor, .string M.text, .slice pe M.exps.length ke, .slice pi M.imps.length ki, .slice pp M.pats.length kp] 31)).alloc (.cells #[.int .i64 0, .int .i64 0, .slice none 0 0, .slice none 0 0] 27)) ((HR0.out.below hB1).more hB1.size) hf hfit 37 (.pointer (some ⟨w.heap.size + 1, 0, none⟩)) (fun W x => enters_of Tryz.func37 (by kernel_rfl) rfl _ W) (instDo (l.map PV.plc) M) (fun h0 W Bp ve vl l0 hb hbp hp hpl hf0 hl0 h8 => by
      rw [hs1] at hbp hp ⊢
      have h0' : chkRg K (l0.map PV.plc) = 0 := by rw [hpl]; exact h0
      have hb0 := CellsAt.below hD1 hb (by rw [hs1]; omega)
      rw [← hpl]
      have hm1 := ((HM0.out.below hB1).more hB1.size).below hb
      rw [hs1] at hm1
      have hsz : w.heap.size + 3 ≤ W.heap.size := by have := hb.size; rw [hs1] at this; exact this
      exact plInst1_any (w.heap.size + 3) Bp (w.heap.size + 1) K ve vl l0 M _ _ W hp hl0 h8 hf0 (rg_lens h0').2.2.2 hbp rfl hb0 (hm1.more hsz) hmf)
    rw [hs1, ← hPR] at h
    exact h
  obtain ⟨⟨AK, AL⟩, ae⟩ := PR
  dsimp only at *
  clear hPR
  have HB1 : Hid (Below w.heap.size w (((w.alloc (.cells #[.int .i64 K.major, .int .i64 K.minor, .slice qe lk je, .slice a l.length cap] 27)).alloc (.cells #[.string M.name, .int .i64 M.major, .int .i64 M.minor, .string M.text, .slice pe M.exps.length ke, .slice pi M.imps.length ki, .slice pp M.pats.length kp] 31)).alloc (.cells #[.int .i64 0, .int .i64 0, .slice none 0 0, .slice none 0 0] 27))) := hB1
  have HZ1 : Hid (CellsAt (((w.alloc (.cells #[.int .i64 K.major, .int .i64 K.minor, .slice qe lk je, .slice a l.length cap] 27)).alloc (.cells #[.string M.name, .int .i64 M.major, .int .i64 M.minor, .string M.text, .slice pe M.exps.length ke, .slice pi M.imps.length ki, .slice pp M.pats.length kp] 31)).alloc (.cells #[.int .i64 0, .int .i64 0, .slice none 0 0, .slice none 0 0] 27)) (w.heap.size + 2) 27 #[.int .i64 0, .int .i64 0, .slice none 0 0, .slice none 0 0]) := hZ1
  have c0 := CellsAt.cell hC1 0
  have c1 := CellsAt.cell hC1 1
  have c2 := CellsAt.cell hC1 2
  have c3 := CellsAt.cell hC1 3
  have lc := CellsAt.lt hC1
  clear hB1 hC1 hD1 hZ1 HR0 hf hfit HM0 hmf
  go_enter Tryz.func6, Tryz.ntmps6
  go_wp2_with fail
  refine HPK.out.mono ?_
  clear c0 c1 c2 c3 lc
  generalize (((w.alloc (.cells #[.int .i64 K.major, .int .i64 K.minor, .slice qe lk je, .slice a l.length cap] 27)).alloc (.cells #[.string M.name, .int .i64 M.major, .int .i64 M.minor, .string M.text, .slice pe M.exps.length ke, .slice pi M.imps.length ki, .slice pp M.pats.length kp] 31)).alloc (.cells #[.int .i64 0, .int .i64 0, .slice none 0 0, .slice none 0 0] 27)) = w1 at *
  rintro e w2 ⟨⟨v', l', rfl, hpl, hft, ho⟩, hb⟩
  have HO2 : Hid (OwnsReg (w.heap.size + 3) w2 v' AK l') := ho
  have HB2 : Hid (Below w.heap.size w w2) := HB1.out.trans (hb.mono (by omega))
  have HZ2 : Hid (CellsAt w2 (w.heap.size + 2) 27 #[.int .i64 0, .int .i64 0, .slice none 0 0, .slice none 0 0]) := CellsAt.below HZ1.out hb (by omega)
  have HPL : Hid (l'.map PV.plc = AL) := hpl
  have HFT : Hid (∀ x ∈ l', x.mod.fits) := hft
  obtain ⟨ve2, vl2, rfl, oe, ol, -⟩ := ho
  obtain ⟨ea, ec, rfl⟩ := own_form oe
  obtain ⟨pa, pc, rfl⟩ := own_form ol
  generalize hak : AK.exps.length = ak at *
  have z0 := CellsAt.cell HZ2.out 0
  have z1 := CellsAt.cell HZ2.out 1
  have z2 := CellsAt.cell HZ2.out 2
  have z3 := CellsAt.cell HZ2.out 3
  have f0 := CellsAt.frozen HZ2.out 0
  have f1 := CellsAt.frozen HZ2.out 1
  have f2 := CellsAt.frozen HZ2.out 2
  have f3 := CellsAt.frozen HZ2.out 3
  have lz := CellsAt.lt HZ2.out
  simp at z0 z1 z2 z3
  clear HPK HB1 HZ1 hb hpl hft oe ol hs1
  go_wp2
  have hZ9 := sets4 HZ2.out (.int .i64 AK.major) (.int .i64 AK.minor) (.slice ea ak ec) (.slice pa l'.length pc)
  have hG9 := sets4_grown w2 (w.heap.size + 2) (.int .i64 AK.major) (.int .i64 AK.minor) (.slice ea ak ec) (.slice pa l'.length pc)
  refine bodyPost_ret (results_cell_tmp_row rfl _ _ _ _ _ _ _ rfl hZ9 Tryz.underlying27 rfl (by kernel_rfl)) rfl ?_
  exact ⟨⟨_, l', rfl, HPL.out, HFT.out, (HO2.out.beCell HZ2.out (by decide) (by decide) (by decide) (by decide) hG9).lower (b := w.heap.size) (by omega)⟩, HB2.out.grown hG9 HB2.out.size (fun q hq => by obtain rfl := Option.some.inj hq; omega)⟩

set_option maxHeartbeats 16000000 in
theorem plRemove_any (K : Ker) (l : List PV) (v : Value) (name : ByteArray) (w : World) (hreg : IsReg w.heap.size w v K l) (hf : K.fits) (hfit : ∀ x ∈ l, x.mod.fits) :
    Calls Tryz.prog 7 #[v, .string name] w fun e w' => (∃ (v' : Value) (l' : List PV), e = .returned (.tuple #[v', .int .i64 (planRes K (l.map PV.plc) (remDo (l.map PV.plc) name)).2]) ∧ l'.map PV.plc = (planRes K (l.map PV.plc) (remDo (l.map PV.plc) name)).1.2 ∧ (∀ x ∈ l', x.mod.fits) ∧ OwnsReg w.heap.size w' v' (planRes K (l.map PV.plc) (remDo (l.map PV.plc) name)).1.1 l') ∧ Below w.heap.size w w' := by
  have HR0 : Hid (IsReg w.heap.size w v K l) := hreg
  obtain ⟨ve, vl, rfl, hE, hL⟩ := hreg
  obtain ⟨qe, je, rfl, -, -⟩ := hE
  obtain ⟨⟨a, cap, rfl, -, -⟩, -⟩ := hL
  generalize hlk : K.exps.length = lk at *
  have hB1 : Below w.heap.size w (((w.alloc (.cells #[.int .i64 K.major, .int .i64 K.minor, .slice qe lk je, .slice a l.length cap] 27)).alloc (.cells #[.string name] 9)).alloc (.cells #[.int .i64 0, .int .i64 0, .slice none 0 0, .slice none 0 0] 27)) := (((Below.refl _ _).alloc (Nat.le_refl _) _).alloc (by simp) _).alloc (by simp; omega) _
  have hC1 : CellsAt (((w.alloc (.cells #[.int .i64 K.major, .int .i64 K.minor, .slice qe lk je, .slice a l.length cap] 27)).alloc (.cells #[.string name] 9)).alloc (.cells #[.int .i64 0, .int .i64 0, .slice none 0 0, .slice none 0 0] 27)) w.heap.size 27 #[.int .i64 K.major, .int .i64 K.minor, .slice qe lk je, .slice a l.length cap] := ((CellsAt.new w 27 #[.int .i64 K.major, .int .i64 K.minor, .slice qe lk je, .slice a l.length cap]).kept (World.grownBy_alloc _ _ none) (by simp)).kept (World.grownBy_alloc _ _ none) (by simp)
  have hD1 : CellsAt (((w.alloc (.cells #[.int .i64 K.major, .int .i64 K.minor, .slice qe lk je, .slice a l.length cap] 27)).alloc (.cells #[.string name] 9)).alloc (.cells #[.int .i64 0, .int .i64 0, .slice none 0 0, .slice none 0 0] 27)) (w.heap.size + 1) 9 #[.string name] := by
    have := (CellsAt.new (w.alloc (.cells #[.int .i64 K.major, .int .i64 K.minor, .slice qe lk je, .slice a l.length cap] 27)) 9 #[.string name]).kept (World.grownBy_alloc _ (.cells #[.int .i64 0, .int .i64 0, .slice none 0 0, .slice none 0 0] 27) none) (by simp)
    rw [World.size_alloc] at this
    exact this
  have hZ1 : CellsAt (((w.alloc (.cells #[.int .i64 K.major, .int .i64 K.minor, .slice qe lk je, .slice a l.length cap] 27)).alloc (.cells #[.string name] 9)).alloc (.cells #[.int .i64 0, .int .i64 0, .slice none 0 0, .slice none 0 0] 27)) (w.heap.size + 2) 27 #[.int .i64 0, .int .i64 0, .slice none 0 0, .slice none 0 0] := by
    have := CellsAt.new ((w.alloc (.cells #[.int .i64 K.major, .int .i64 K.minor, .slice qe lk je, .slice a l.length cap] 27)).alloc (.cells #[.string name] 9)) 27 #[.int .i64 0, .int .i64 0, .slice none 0 0, .slice none 0 0]
    rw [World.size_alloc, World.size_alloc] at this
    exact this
  have hs1 : ((((w.alloc (.cells #[.int .i64 K.major, .int .i64 K.minor, .slice qe lk je, .slice a l.length cap] 27)).alloc (.cells #[.string name] 9)).alloc (.cells #[.int .i64 0, .int .i64 0, .slice none 0 0, .slice none 0 0] 27))).heap.size = w.heap.size + 3 := by simp
  obtain ⟨PR, hPR⟩ : ∃ PR, PR = planRes K (l.map PV.plc) (remDo (l.map PV.plc) name) := ⟨_, rfl⟩
  rw [← hPR]
  have HPK : Hid (Calls Tryz.prog 36 #[.agg #[.int .i64 K.major, .int .i64 K.minor, .slice qe lk je, .slice a l.length cap], .func (.func 41) #[] #[.pointer (some ⟨w.heap.size + 1, 0, none⟩)]] (((w.alloc (.cells #[.int .i64 K.major, .int .i64 K.minor, .slice qe lk je, .slice a l.length cap] 27)).alloc (.cells #[.string name] 9)).alloc (.cells #[.int .i64 0, .int .i64 0, .slice none 0 0, .slice none 0 0] 27)) fun e w' => (∃ (v' : Value) (l' : List PV), e = .returned (.tuple #[v', .int .i64 PR.2]) ∧ l'.map PV.plc = PR.1.2 ∧ (∀ x ∈ l', x.mod.fits) ∧ OwnsReg (w.heap.size + 3) w' v' PR.1.1 l') ∧ Below (w.heap.size + 3) (((w.alloc (.cells #[.int .i64 K.major, .int .i64 K.minor, .slice qe lk je, .slice a l.length cap] 27)).alloc (.cells #[.string name] 9)).alloc (.cells #[.int .i64 0, .int .i64 0, .slice none 0 0, .slice none 0 0] 27)) w') := by
    have h := planned_any K l (.agg #[.int .i64 K.major, .int .i64 K.minor, .slice qe lk je, .slice a l.length cap]) (((w.alloc (.cells #[.int .i64 K.major, .int .i64 K.minor, .slice qe lk je, .slice a l.length cap] 27)).alloc (.cells #[.string name] 9)).alloc (.cells #[.int .i64 0, .int .i64 0, .slice none 0 0, .slice none 0 0] 27)) ((HR0.out.below hB1).more hB1.size) hf hfit 41 (.pointer (some ⟨w.heap.size + 1, 0, none⟩)) (fun W x => enters_of Tryz.func41 (by kernel_rfl) rfl _ W) (remDo (l.map PV.plc) name) (fun h0 W Bp ve vl l0 hb hbp hp hpl hf0 hl0 h8 => by
      rw [hs1] at hbp hp ⊢
      have h0' : chkRg K (l0.map PV.plc) = 0 := by rw [hpl]; exact h0
      have hb0 := CellsAt.below hD1 hb (by rw [hs1]; omega)
      rw [← hpl]
      exact plRem1_any (w.heap.size + 3) Bp (w.heap.size + 1) K ve vl l0 name W hp hl0 hf0 (rg_graph h0') hbp hb0)
    rw [hs1, ← hPR] at h
    exact h
  obtain ⟨⟨AK, AL⟩, ae⟩ := PR
  dsimp only at *
  clear hPR
  have HB1 : Hid (Below w.heap.size w (((w.alloc (.cells #[.int .i64 K.major, .int .i64 K.minor, .slice qe lk je, .slice a l.length cap] 27)).alloc (.cells #[.string name] 9)).alloc (.cells #[.int .i64 0, .int .i64 0, .slice none 0 0, .slice none 0 0] 27))) := hB1
  have HZ1 : Hid (CellsAt (((w.alloc (.cells #[.int .i64 K.major, .int .i64 K.minor, .slice qe lk je, .slice a l.length cap] 27)).alloc (.cells #[.string name] 9)).alloc (.cells #[.int .i64 0, .int .i64 0, .slice none 0 0, .slice none 0 0] 27)) (w.heap.size + 2) 27 #[.int .i64 0, .int .i64 0, .slice none 0 0, .slice none 0 0]) := hZ1
  have c0 := CellsAt.cell hC1 0
  have c1 := CellsAt.cell hC1 1
  have c2 := CellsAt.cell hC1 2
  have c3 := CellsAt.cell hC1 3
  have lc := CellsAt.lt hC1
  clear hB1 hC1 hD1 hZ1 HR0 hf hfit
  go_enter Tryz.func7, Tryz.ntmps7
  go_wp2_with fail
  refine HPK.out.mono ?_
  clear c0 c1 c2 c3 lc
  generalize (((w.alloc (.cells #[.int .i64 K.major, .int .i64 K.minor, .slice qe lk je, .slice a l.length cap] 27)).alloc (.cells #[.string name] 9)).alloc (.cells #[.int .i64 0, .int .i64 0, .slice none 0 0, .slice none 0 0] 27)) = w1 at *
  rintro e w2 ⟨⟨v', l', rfl, hpl, hft, ho⟩, hb⟩
  have HO2 : Hid (OwnsReg (w.heap.size + 3) w2 v' AK l') := ho
  have HB2 : Hid (Below w.heap.size w w2) := HB1.out.trans (hb.mono (by omega))
  have HZ2 : Hid (CellsAt w2 (w.heap.size + 2) 27 #[.int .i64 0, .int .i64 0, .slice none 0 0, .slice none 0 0]) := CellsAt.below HZ1.out hb (by omega)
  have HPL : Hid (l'.map PV.plc = AL) := hpl
  have HFT : Hid (∀ x ∈ l', x.mod.fits) := hft
  obtain ⟨ve2, vl2, rfl, oe, ol, -⟩ := ho
  obtain ⟨ea, ec, rfl⟩ := own_form oe
  obtain ⟨pa, pc, rfl⟩ := own_form ol
  generalize hak : AK.exps.length = ak at *
  have z0 := CellsAt.cell HZ2.out 0
  have z1 := CellsAt.cell HZ2.out 1
  have z2 := CellsAt.cell HZ2.out 2
  have z3 := CellsAt.cell HZ2.out 3
  have f0 := CellsAt.frozen HZ2.out 0
  have f1 := CellsAt.frozen HZ2.out 1
  have f2 := CellsAt.frozen HZ2.out 2
  have f3 := CellsAt.frozen HZ2.out 3
  have lz := CellsAt.lt HZ2.out
  simp at z0 z1 z2 z3
  clear HPK HB1 HZ1 hb hpl hft oe ol hs1
  go_wp2
  have hZ9 := sets4 HZ2.out (.int .i64 AK.major) (.int .i64 AK.minor) (.slice ea ak ec) (.slice pa l'.length pc)
  have hG9 := sets4_grown w2 (w.heap.size + 2) (.int .i64 AK.major) (.int .i64 AK.minor) (.slice ea ak ec) (.slice pa l'.length pc)
  refine bodyPost_ret (results_cell_tmp_row rfl _ _ _ _ _ _ _ rfl hZ9 Tryz.underlying27 rfl (by kernel_rfl)) rfl ?_
  exact ⟨⟨_, l', rfl, HPL.out, HFT.out, (HO2.out.beCell HZ2.out (by decide) (by decide) (by decide) (by decide) hG9).lower (b := w.heap.size) (by omega)⟩, HB2.out.grown hG9 HB2.out.size (fun q hq => by obtain rfl := Option.some.inj hq; omega)⟩

set_option maxHeartbeats 16000000 in
theorem plUpgrade_any (K : Ker) (l : List PV) (v : Value) (M : Mod) (vm : Value) (w : World) (hreg : IsReg w.heap.size w v K l) (hf : K.fits) (hfit : ∀ x ∈ l, x.mod.fits) (hm : IsMod w.heap.size w vm M) (hmf : M.fits) :
    Calls Tryz.prog 8 #[v, vm] w fun e w' => (∃ (v' : Value) (l' : List PV), e = .returned (.tuple #[v', .int .i64 (planRes K (l.map PV.plc) (upDo (l.map PV.plc) M)).2]) ∧ l'.map PV.plc = (planRes K (l.map PV.plc) (upDo (l.map PV.plc) M)).1.2 ∧ (∀ x ∈ l', x.mod.fits) ∧ OwnsReg w.heap.size w' v' (planRes K (l.map PV.plc) (upDo (l.map PV.plc) M)).1.1 l') ∧ Below w.heap.size w w' := by
  have HR0 : Hid (IsReg w.heap.size w v K l) := hreg
  obtain ⟨ve, vl, rfl, hE, hL⟩ := hreg
  obtain ⟨qe, je, rfl, -, -⟩ := hE
  obtain ⟨⟨a, cap, rfl, -, -⟩, -⟩ := hL
  generalize hlk : K.exps.length = lk at *
  have HM0 : Hid (IsMod w.heap.size w vm M) := hm
  obtain ⟨vxe, vxi, vxp, rfl, hxE, hxI, hxP⟩ := hm
  obtain ⟨pe, ke, e4, -⟩ := hxE
  obtain ⟨pi, ki, e5, -⟩ := hxI
  obtain ⟨pp, kp, e6, -⟩ := hxP
  subst e4 e5 e6
  have hB1 : Below w.heap.size w (((w.alloc (.cells #[.int .i64 K.major, .int .i64 K.minor, .slice qe lk je, .slice a l.length cap] 27)).alloc (.cells #[.string M.name, .int .i64 M.major, .int .i64 M.minor, .string M.text, .slice pe M.exps.length ke, .slice pi M.imps.length ki, .slice pp M.pats.length kp] 31)).alloc (.cells #[.int .i64 0, .int .i64 0, .slice none 0 0, .slice none 0 0] 27)) := (((Below.refl _ _).alloc (Nat.le_refl _) _).alloc (by simp) _).alloc (by simp; omega) _
  have hC1 : CellsAt (((w.alloc (.cells #[.int .i64 K.major, .int .i64 K.minor, .slice qe lk je, .slice a l.length cap] 27)).alloc (.cells #[.string M.name, .int .i64 M.major, .int .i64 M.minor, .string M.text, .slice pe M.exps.length ke, .slice pi M.imps.length ki, .slice pp M.pats.length kp] 31)).alloc (.cells #[.int .i64 0, .int .i64 0, .slice none 0 0, .slice none 0 0] 27)) w.heap.size 27 #[.int .i64 K.major, .int .i64 K.minor, .slice qe lk je, .slice a l.length cap] := ((CellsAt.new w 27 #[.int .i64 K.major, .int .i64 K.minor, .slice qe lk je, .slice a l.length cap]).kept (World.grownBy_alloc _ _ none) (by simp)).kept (World.grownBy_alloc _ _ none) (by simp)
  have hD1 : CellsAt (((w.alloc (.cells #[.int .i64 K.major, .int .i64 K.minor, .slice qe lk je, .slice a l.length cap] 27)).alloc (.cells #[.string M.name, .int .i64 M.major, .int .i64 M.minor, .string M.text, .slice pe M.exps.length ke, .slice pi M.imps.length ki, .slice pp M.pats.length kp] 31)).alloc (.cells #[.int .i64 0, .int .i64 0, .slice none 0 0, .slice none 0 0] 27)) (w.heap.size + 1) 31 #[.string M.name, .int .i64 M.major, .int .i64 M.minor, .string M.text, .slice pe M.exps.length ke, .slice pi M.imps.length ki, .slice pp M.pats.length kp] := by
    have := (CellsAt.new (w.alloc (.cells #[.int .i64 K.major, .int .i64 K.minor, .slice qe lk je, .slice a l.length cap] 27)) 31 #[.string M.name, .int .i64 M.major, .int .i64 M.minor, .string M.text, .slice pe M.exps.length ke, .slice pi M.imps.length ki, .slice pp M.pats.length kp]).kept (World.grownBy_alloc _ (.cells #[.int .i64 0, .int .i64 0, .slice none 0 0, .slice none 0 0] 27) none) (by simp)
    rw [World.size_alloc] at this
    exact this
  have hZ1 : CellsAt (((w.alloc (.cells #[.int .i64 K.major, .int .i64 K.minor, .slice qe lk je, .slice a l.length cap] 27)).alloc (.cells #[.string M.name, .int .i64 M.major, .int .i64 M.minor, .string M.text, .slice pe M.exps.length ke, .slice pi M.imps.length ki, .slice pp M.pats.length kp] 31)).alloc (.cells #[.int .i64 0, .int .i64 0, .slice none 0 0, .slice none 0 0] 27)) (w.heap.size + 2) 27 #[.int .i64 0, .int .i64 0, .slice none 0 0, .slice none 0 0] := by
    have := CellsAt.new ((w.alloc (.cells #[.int .i64 K.major, .int .i64 K.minor, .slice qe lk je, .slice a l.length cap] 27)).alloc (.cells #[.string M.name, .int .i64 M.major, .int .i64 M.minor, .string M.text, .slice pe M.exps.length ke, .slice pi M.imps.length ki, .slice pp M.pats.length kp] 31)) 27 #[.int .i64 0, .int .i64 0, .slice none 0 0, .slice none 0 0]
    rw [World.size_alloc, World.size_alloc] at this
    exact this
  have hs1 : ((((w.alloc (.cells #[.int .i64 K.major, .int .i64 K.minor, .slice qe lk je, .slice a l.length cap] 27)).alloc (.cells #[.string M.name, .int .i64 M.major, .int .i64 M.minor, .string M.text, .slice pe M.exps.length ke, .slice pi M.imps.length ki, .slice pp M.pats.length kp] 31)).alloc (.cells #[.int .i64 0, .int .i64 0, .slice none 0 0, .slice none 0 0] 27))).heap.size = w.heap.size + 3 := by simp
  obtain ⟨PR, hPR⟩ : ∃ PR, PR = planRes K (l.map PV.plc) (upDo (l.map PV.plc) M) := ⟨_, rfl⟩
  rw [← hPR]
  have HPK : Hid (Calls Tryz.prog 36 #[.agg #[.int .i64 K.major, .int .i64 K.minor, .slice qe lk je, .slice a l.length cap], .func (.func 44) #[] #[.pointer (some ⟨w.heap.size + 1, 0, none⟩)]] (((w.alloc (.cells #[.int .i64 K.major, .int .i64 K.minor, .slice qe lk je, .slice a l.length cap] 27)).alloc (.cells #[.string M.name, .int .i64 M.major, .int .i64 M.minor, .string M.text, .slice pe M.exps.length ke, .slice pi M.imps.length ki, .slice pp M.pats.length kp] 31)).alloc (.cells #[.int .i64 0, .int .i64 0, .slice none 0 0, .slice none 0 0] 27)) fun e w' => (∃ (v' : Value) (l' : List PV), e = .returned (.tuple #[v', .int .i64 PR.2]) ∧ l'.map PV.plc = PR.1.2 ∧ (∀ x ∈ l', x.mod.fits) ∧ OwnsReg (w.heap.size + 3) w' v' PR.1.1 l') ∧ Below (w.heap.size + 3) (((w.alloc (.cells #[.int .i64 K.major, .int .i64 K.minor, .slice qe lk je, .slice a l.length cap] 27)).alloc (.cells #[.string M.name, .int .i64 M.major, .int .i64 M.minor, .string M.text, .slice pe M.exps.length ke, .slice pi M.imps.length ki, .slice pp M.pats.length kp] 31)).alloc (.cells #[.int .i64 0, .int .i64 0, .slice none 0 0, .slice none 0 0] 27)) w') := by
    have h := planned_any K l (.agg #[.int .i64 K.major, .int .i64 K.minor, .slice qe lk je, .slice a l.length cap]) (((w.alloc (.cells #[.int .i64 K.major, .int .i64 K.minor, .slice qe lk je, .slice a l.length cap] 27)).alloc (.cells #[.string M.name, .int .i64 M.major, .int .i64 M.minor, .string M.text, .slice pe M.exps.length ke, .slice pi M.imps.length ki, .slice pp M.pats.length kp] 31)).alloc (.cells #[.int .i64 0, .int .i64 0, .slice none 0 0, .slice none 0 0] 27)) ((HR0.out.below hB1).more hB1.size) hf hfit 44 (.pointer (some ⟨w.heap.size + 1, 0, none⟩)) (fun W x => enters_of Tryz.func44 (by kernel_rfl) rfl _ W) (upDo (l.map PV.plc) M) (fun h0 W Bp ve vl l0 hb hbp hp hpl hf0 hl0 h8 => by
      rw [hs1] at hbp hp ⊢
      have h0' : chkRg K (l0.map PV.plc) = 0 := by rw [hpl]; exact h0
      have hb0 := CellsAt.below hD1 hb (by rw [hs1]; omega)
      rw [← hpl]
      have hm1 := ((HM0.out.below hB1).more hB1.size).below hb
      rw [hs1] at hm1
      have hsz : w.heap.size + 3 ≤ W.heap.size := by have := hb.size; rw [hs1] at this; exact this
      exact plUp1_any (w.heap.size + 3) Bp (w.heap.size + 1) K ve vl l0 M _ _ W hp hl0 hf0 (rg_lens h0').2.2.2 hbp rfl hb0 (by omega) hm1 hmf)
    rw [hs1, ← hPR] at h
    exact h
  obtain ⟨⟨AK, AL⟩, ae⟩ := PR
  dsimp only at *
  clear hPR
  have HB1 : Hid (Below w.heap.size w (((w.alloc (.cells #[.int .i64 K.major, .int .i64 K.minor, .slice qe lk je, .slice a l.length cap] 27)).alloc (.cells #[.string M.name, .int .i64 M.major, .int .i64 M.minor, .string M.text, .slice pe M.exps.length ke, .slice pi M.imps.length ki, .slice pp M.pats.length kp] 31)).alloc (.cells #[.int .i64 0, .int .i64 0, .slice none 0 0, .slice none 0 0] 27))) := hB1
  have HZ1 : Hid (CellsAt (((w.alloc (.cells #[.int .i64 K.major, .int .i64 K.minor, .slice qe lk je, .slice a l.length cap] 27)).alloc (.cells #[.string M.name, .int .i64 M.major, .int .i64 M.minor, .string M.text, .slice pe M.exps.length ke, .slice pi M.imps.length ki, .slice pp M.pats.length kp] 31)).alloc (.cells #[.int .i64 0, .int .i64 0, .slice none 0 0, .slice none 0 0] 27)) (w.heap.size + 2) 27 #[.int .i64 0, .int .i64 0, .slice none 0 0, .slice none 0 0]) := hZ1
  have c0 := CellsAt.cell hC1 0
  have c1 := CellsAt.cell hC1 1
  have c2 := CellsAt.cell hC1 2
  have c3 := CellsAt.cell hC1 3
  have lc := CellsAt.lt hC1
  clear hB1 hC1 hD1 hZ1 HR0 hf hfit HM0 hmf
  go_enter Tryz.func8, Tryz.ntmps8
  go_wp2_with fail
  refine HPK.out.mono ?_
  clear c0 c1 c2 c3 lc
  generalize (((w.alloc (.cells #[.int .i64 K.major, .int .i64 K.minor, .slice qe lk je, .slice a l.length cap] 27)).alloc (.cells #[.string M.name, .int .i64 M.major, .int .i64 M.minor, .string M.text, .slice pe M.exps.length ke, .slice pi M.imps.length ki, .slice pp M.pats.length kp] 31)).alloc (.cells #[.int .i64 0, .int .i64 0, .slice none 0 0, .slice none 0 0] 27)) = w1 at *
  rintro e w2 ⟨⟨v', l', rfl, hpl, hft, ho⟩, hb⟩
  have HO2 : Hid (OwnsReg (w.heap.size + 3) w2 v' AK l') := ho
  have HB2 : Hid (Below w.heap.size w w2) := HB1.out.trans (hb.mono (by omega))
  have HZ2 : Hid (CellsAt w2 (w.heap.size + 2) 27 #[.int .i64 0, .int .i64 0, .slice none 0 0, .slice none 0 0]) := CellsAt.below HZ1.out hb (by omega)
  have HPL : Hid (l'.map PV.plc = AL) := hpl
  have HFT : Hid (∀ x ∈ l', x.mod.fits) := hft
  obtain ⟨ve2, vl2, rfl, oe, ol, -⟩ := ho
  obtain ⟨ea, ec, rfl⟩ := own_form oe
  obtain ⟨pa, pc, rfl⟩ := own_form ol
  generalize hak : AK.exps.length = ak at *
  have z0 := CellsAt.cell HZ2.out 0
  have z1 := CellsAt.cell HZ2.out 1
  have z2 := CellsAt.cell HZ2.out 2
  have z3 := CellsAt.cell HZ2.out 3
  have f0 := CellsAt.frozen HZ2.out 0
  have f1 := CellsAt.frozen HZ2.out 1
  have f2 := CellsAt.frozen HZ2.out 2
  have f3 := CellsAt.frozen HZ2.out 3
  have lz := CellsAt.lt HZ2.out
  simp at z0 z1 z2 z3
  clear HPK HB1 HZ1 hb hpl hft oe ol hs1
  go_wp2
  have hZ9 := sets4 HZ2.out (.int .i64 AK.major) (.int .i64 AK.minor) (.slice ea ak ec) (.slice pa l'.length pc)
  have hG9 := sets4_grown w2 (w.heap.size + 2) (.int .i64 AK.major) (.int .i64 AK.minor) (.slice ea ak ec) (.slice pa l'.length pc)
  refine bodyPost_ret (results_cell_tmp_row rfl _ _ _ _ _ _ _ rfl hZ9 Tryz.underlying27 rfl (by kernel_rfl)) rfl ?_
  exact ⟨⟨_, l', rfl, HPL.out, HFT.out, (HO2.out.beCell HZ2.out (by decide) (by decide) (by decide) (by decide) hG9).lower (b := w.heap.size) (by omega)⟩, HB2.out.grown hG9 HB2.out.size (fun q hq => by obtain rfl := Option.some.inj hq; omega)⟩

end Go.Proofs.YtlpnfbpgnfappaaGreat

/- The contracts of the document's SameExports and SameModule: where both are the same. -/
namespace Go.Proofs.YtlpnfbpgnfappaaGreat
open Go.RowKit Go.PlainAid

set_option maxHeartbeats 1000000 in
theorem sameExports_yes (l : List Exp) (v v' : Value) (w : World) (h1 : RowOf 2 Exp.cell w.heap.size w v l) (h2 : RowOf 2 Exp.cell w.heap.size w v' l) :
    Calls Tryz.prog 76 #[v, v'] w fun e w' => e = .returned (.bool true) ∧ ∃ q, w' = w.drewN q := by
  obtain ⟨a, cap, rfl, hz, h1⟩ := h1
  obtain ⟨a', cap', rfl, _, h2⟩ := h2
  have hne : ((l.length : Int) != (l.length : Int)) = false := by simp
  go_enter Tryz.func76, Tryz.ntmps76
  go_wp2
  go_loopw [5] (fun i wr => ∃ (k : Nat), k ≤ l.length ∧ i = .int .i64 k ∧ Hid (∃ q, wr = w.drewN q)) (fun i _ => l.length - (intOf i).toNat)
  case atStart => exact ⟨0, Nat.zero_le _, rfl, (⟨0, rfl⟩ : ∃ q, w = w.drewN q)⟩
  case round =>
    obtain ⟨k, hk, rfl, HQ⟩ := hrel
    by_cases hlt : k < l.length
    · obtain ⟨p, hp⟩ : ∃ p, l[k]? = some p := ⟨_, List.getElem?_eq_getElem hlt⟩
      rcases h1 with h | ⟨b, off, rfl, hbn, hc⟩
      · subst h; simp at hlt
      rcases h2 with h | ⟨b', off', rfl, hbn', hc'⟩
      · subst h; simp at hlt
      have hcl : ∀ p, wr.cell? p = w.cell? p := fun p => by obtain ⟨q, hq⟩ := HQ.out; rw [hq]; simp
      have c0 := (hcl _).trans (hc k _ hp 0 (by omega))
      have c1 := (hcl _).trans (hc k _ hp 1 (by omega))
      have d0 := (hcl _).trans (hc' k _ hp 0 (by omega))
      have d1 := (hcl _).trans (hc' k _ hp 1 (by omega))
      obtain ⟨n, A⟩ := p
      dsimp only [Exp.cell] at c0 c1 d0 d1
      rw [Nat.add_zero] at c0 d0
      clear hcl hc hc' hp
      go_wp2
      go_quiet (fail)
      go_wp2
      obtain ⟨q, hq⟩ := HQ.out
      exact ⟨⟨k + 1, by omega, by go_num, (⟨q + _, by rw [hq, World.drewN_drewN]⟩ : ∃ q, _ = w.drewN q)⟩, by simp [intOf]; omega⟩
    · go_wp2
      go_ret
      exact ⟨rfl, HQ.out⟩

set_option maxRecDepth 100000 in
set_option maxHeartbeats 2000000 in
theorem sameModule_yes (M : Mod) (v v' : Value) (w : World) (h : IsMod w.heap.size w v M) (h' : IsMod w.heap.size w v' M) :
    Calls Tryz.prog 27 #[v, v'] w fun e w' => e = .returned (.bool true) ∧ Below w.heap.size w w' := by
  obtain ⟨ve, vi, vp, rfl, hE, hI, hP⟩ := h
  obtain ⟨ve', vi', vp', rfl, hE', hI', hP'⟩ := h'
  obtain ⟨N, a, b, T, es, is, ps⟩ := M
  dsimp only at *
  have HE : Hid (∀ w', Below w.heap.size w w' → Calls Tryz.prog 76 #[ve, ve'] w' fun e w'' => e = .returned (.bool true) ∧ ∃ q, w'' = w'.drewN q) :=
    fun w' hb => sameExports_yes es ve ve' w' ((hE.below hb).more hb.size) ((hE'.below hb).more hb.size)
  obtain ⟨pe, ke, rfl, _, _⟩ := hE
  obtain ⟨pe', ke', rfl, _, _⟩ := hE'
  have HI : Hid (RowOf 4 Imp.cell w.heap.size w vi is) := hI
  have HI' : Hid (RowOf 4 Imp.cell w.heap.size w vi' is) := hI'
  have HP : Hid (RowOf 4 Pat.cell w.heap.size w vp ps) := hP
  have HP' : Hid (RowOf 4 Pat.cell w.heap.size w vp' ps) := hP'
  obtain ⟨pi, ki, rfl, _, _⟩ := hI
  obtain ⟨pi', ki', rfl, _, _⟩ := hI'
  obtain ⟨pp, kp, rfl, _, _⟩ := hP
  obtain ⟨pp', kp', rfl, _, _⟩ := hP'
  have n1 : ((is.length : Int) != (is.length : Int)) = false := by simp
  have n2 : ((ps.length : Int) != (ps.length : Int)) = false := by simp
  have HW : Hid (Below w.heap.size w ((w.alloc (.cells #[.string N, .int .i64 a, .int .i64 b, .string T, .slice pe es.length ke, .slice pi is.length ki, .slice pp ps.length kp] 31)).alloc (.cells #[.string N, .int .i64 a, .int .i64 b, .string T, .slice pe' es.length ke', .slice pi' is.length ki', .slice pp' ps.length kp'] 31))) :=
    ((Below.refl _ _).alloc (Nat.le_refl _) _).alloc (by simp) _
  go_enter Tryz.func27, Tryz.ntmps27
  go_wp2_with fail
  refine (HE.out _ HW.out).mono ?_
  rintro e w1 ⟨rfl, q, hq⟩
  have B1 : Below w.heap.size w w1 := by rw [hq]; exact below_drewN HW.out q
  have hcl : ∀ p, w1.cell? p = ((w.alloc (.cells #[.string N, .int .i64 a, .int .i64 b, .string T, .slice pe es.length ke, .slice pi is.length ki, .slice pp ps.length kp] 31)).alloc (.cells #[.string N, .int .i64 a, .int .i64 b, .string T, .slice pe' es.length ke', .slice pi' is.length ki', .slice pp' ps.length kp'] 31)).cell? p := fun p => by rw [hq]; simp
  have d5 := hcl ⟨w.heap.size, 5, none⟩
  have d6 := hcl ⟨w.heap.size, 6, none⟩
  have f5 := hcl ⟨w.heap.size + 1, 5, none⟩
  have f6 := hcl ⟨w.heap.size + 1, 6, none⟩
  have hz1 : w.heap.size + 1 < w1.heap.size := by rw [hq]; simp
  simp at d5 d6 f5 f6
  obtain ⟨_, _, e0, _, hI⟩ := (HI.out.below B1).more B1.size
  obtain ⟨_, _, e1, _, hI'⟩ := (HI'.out.below B1).more B1.size
  obtain ⟨_, _, e2, _, hP⟩ := (HP.out.below B1).more B1.size
  obtain ⟨_, _, e3, _, hP'⟩ := (HP'.out.below B1).more B1.size
  cases e0; cases e1; cases e2; cases e3
  clear hcl hq HE HI HI' HP HP' HW
  go_wp2
  go_loopw [5] (fun i wr => ∃ (k : Nat), k ≤ is.length ∧ i = .int .i64 k ∧ Below w1.heap.size w1 wr) (fun i _ => is.length - (intOf i).toNat)
  case atStart => exact ⟨0, Nat.zero_le _, rfl, Below.refl _ _⟩
  case round =>
    obtain ⟨k, hk, rfl, B⟩ := hrel
    have x5 := (B.cell (p := ⟨w.heap.size, 5, none⟩) (by simp; omega)).trans d5
    have y5 := (B.cell (p := ⟨w.heap.size + 1, 5, none⟩) (by simp; omega)).trans f5
    by_cases hlt : k < is.length
    · obtain ⟨p, hp⟩ : ∃ p, is[k]? = some p := ⟨_, List.getElem?_eq_getElem hlt⟩
      rcases hI with h | ⟨bb, off, rfl, hbn, hc⟩
      · subst h; simp at hlt
      rcases hI' with h | ⟨bb', off', rfl, hbn', hc'⟩
      · subst h; simp at hlt
      have c0 := (B.cell (p := ⟨bb, off + k * 4 + 0, none⟩) hbn).trans (hc k _ hp 0 (by omega))
      have c1 := (B.cell (p := ⟨bb, off + k * 4 + 1, none⟩) hbn).trans (hc k _ hp 1 (by omega))
      have c2 := (B.cell (p := ⟨bb, off + k * 4 + 2, none⟩) hbn).trans (hc k _ hp 2 (by omega))
      have c3 := (B.cell (p := ⟨bb, off + k * 4 + 3, none⟩) hbn).trans (hc k _ hp 3 (by omega))
      have g0 := (B.cell (p := ⟨bb', off' + k * 4 + 0, none⟩) hbn').trans (hc' k _ hp 0 (by omega))
      have g1 := (B.cell (p := ⟨bb', off' + k * 4 + 1, none⟩) hbn').trans (hc' k _ hp 1 (by omega))
      have g2 := (B.cell (p := ⟨bb', off' + k * 4 + 2, none⟩) hbn').trans (hc' k _ hp 2 (by omega))
      have g3 := (B.cell (p := ⟨bb', off' + k * 4 + 3, none⟩) hbn').trans (hc' k _ hp 3 (by omega))
      obtain ⟨m, n, va, vb⟩ := p
      dsimp only [Imp.cell] at c0 c1 c2 c3 g0 g1 g2 g3
      rw [Nat.add_zero] at c0 g0
      clear hc hc' hp hP hP' d6 f6
      go_wp2
      go_quiet (fail)
      go_wp2
      exact ⟨⟨k + 1, by omega, by go_num, below_drewN B _⟩, by simp [intOf]; omega⟩
    · clear hI hI'
      go_wp2
      go_loopw [6] (fun i wr2 => ∃ (k : Nat), k ≤ ps.length ∧ i = .int .i64 k ∧ Below w1.heap.size w1 wr2) (fun i _ => ps.length - (intOf i).toNat)
      case atStart => exact ⟨0, Nat.zero_le _, rfl, B⟩
      case round =>
        obtain ⟨j, hj, rfl, B2⟩ := hrel
        have x6 := (B2.cell (p := ⟨w.heap.size, 6, none⟩) (by simp; omega)).trans d6
        have y6 := (B2.cell (p := ⟨w.heap.size + 1, 6, none⟩) (by simp; omega)).trans f6
        by_cases hlt2 : j < ps.length
        · obtain ⟨p, hp⟩ : ∃ p, ps[j]? = some p := ⟨_, List.getElem?_eq_getElem hlt2⟩
          rcases hP with h | ⟨bb, off, rfl, hbn, hc⟩
          · subst h; simp at hlt2
          rcases hP' with h | ⟨bb', off', rfl, hbn', hc'⟩
          · subst h; simp at hlt2
          have c0 := (B2.cell (p := ⟨bb, off + j * 4 + 0, none⟩) hbn).trans (hc j _ hp 0 (by omega))
          have c1 := (B2.cell (p := ⟨bb, off + j * 4 + 1, none⟩) hbn).trans (hc j _ hp 1 (by omega))
          have c2 := (B2.cell (p := ⟨bb, off + j * 4 + 2, none⟩) hbn).trans (hc j _ hp 2 (by omega))
          have c3 := (B2.cell (p := ⟨bb, off + j * 4 + 3, none⟩) hbn).trans (hc j _ hp 3 (by omega))
          have g0 := (B2.cell (p := ⟨bb', off' + j * 4 + 0, none⟩) hbn').trans (hc' j _ hp 0 (by omega))
          have g1 := (B2.cell (p := ⟨bb', off' + j * 4 + 1, none⟩) hbn').trans (hc' j _ hp 1 (by omega))
          have g2 := (B2.cell (p := ⟨bb', off' + j * 4 + 2, none⟩) hbn').trans (hc' j _ hp 2 (by omega))
          have g3 := (B2.cell (p := ⟨bb', off' + j * 4 + 3, none⟩) hbn').trans (hc' j _ hp 3 (by omega))
          obtain ⟨K, A, S, D⟩ := p
          dsimp only [Pat.cell] at c0 c1 c2 c3 g0 g1 g2 g3
          rw [Nat.add_zero] at c0 g0
          clear hc hc' hp
          go_wp2
          go_quiet (fail)
          go_wp2
          exact ⟨⟨j + 1, by omega, by go_num, below_drewN B2 _⟩, by simp [intOf]; omega⟩
        · clear hP hP'
          go_wp2
          go_ret
          exact ⟨rfl, B1.trans (B2.mono B1.size)⟩

end Go.Proofs.YtlpnfbpgnfappaaGreat

/- The contracts of the document's SamePlaced and SameRegistry, where both are alike. -/
namespace Go.Proofs.YtlpnfbpgnfappaaGreat
open Go.RowKit Go.PlainAid Go.Lib Go.Sort

set_option maxRecDepth 100000

theorem plc_at {l l' : List PV} (h : l.map PV.plc = l'.map PV.plc) {k : Nat} {x : PV} (hx : l[k]? = some x) : ∃ y, l'[k]? = some y ∧ x.mod = y.mod ∧ x.first = y.first := by
  have h1 : (l.map PV.plc)[k]? = some x.plc := by rw [List.getElem?_map, hx]; rfl
  rw [h, List.getElem?_map] at h1
  cases hy : l'[k]? with
  | none => rw [hy] at h1; cases h1
  | some y =>
    rw [hy] at h1
    have h2 : y.plc = x.plc := by simpa using h1
    unfold PV.plc at h2
    injection h2 with h3 h4
    exact ⟨y, rfl, h3.symm, h4.symm⟩

set_option maxHeartbeats 8000000 in
theorem samePlaced_yes (l l' : List PV) (v v' : Value) (w : World) (h1 : IsPlcs w.heap.size w v l) (h2 : IsPlcs w.heap.size w v' l') (he : l.map PV.plc = l'.map PV.plc) :
    Calls Tryz.prog 77 #[v, v'] w fun e w' => e = .returned (.bool true) ∧ Below w.heap.size w w' := by
  have hln : l.length = l'.length := by have := congrArg List.length he; simpa using this
  obtain ⟨⟨a, cap, rfl, hmax, hrow⟩, hat⟩ := h1
  obtain ⟨⟨a', cap', rfl, hmax', hrow'⟩, hat'⟩ := h2
  rw [← hln]
  clear hln hmax'
  have hne : ((l.length : Int) != (l.length : Int)) = false := by simp
  go_enter Tryz.func77, Tryz.ntmps77
  go_wp2
  go_loopg [5] l.length (fun gk i wr => ∃ (k : Nat), Hid (gk = l.length - k) ∧ k ≤ l.length ∧ i = .int .i64 k ∧ Hid (Below w.heap.size w wr))
  case atStart => exact ⟨0, (rfl : l.length = l.length - 0), Nat.zero_le _, rfl, Below.refl _ _⟩
  case round =>
    obtain ⟨k, HGK, hk, rfl, HB⟩ := hrel
    have B := HB.out
    clear HB
    by_cases hlt : k < l.length
    · obtain ⟨x, hx⟩ : ∃ x, l[k]? = some x := ⟨_, List.getElem?_eq_getElem hlt⟩
      obtain ⟨y, hy, hmod, hfst⟩ := plc_at he hx
      rcases hrow with h | ⟨b, off, rfl, hbn, hcells⟩
      · subst h; simp at hlt
      rcases hrow' with h | ⟨b', off', rfl, hbn', hcells'⟩
      · subst h; simp at hy
      have px := ((hat x (List.mem_of_getElem? hx)).below B).more B.size
      have py := ((hat' y (List.mem_of_getElem? hy)).below B).more B.size
      have HS : Hid (∀ d os, Calls Tryz.prog 27 #[x.modV, y.modV] (grow (redrawn wr d) os) fun e w' => e = .returned (.bool true) ∧ Below (grow (redrawn wr d) os).heap.size (grow (redrawn wr d) os) w') := fun d os => by
        have hb := below_regrown wr d os
        have q1 := ((px.below hb).more hb.size).isMod
        have q2 := ((py.below hb).more hb.size).isMod
        rw [hmod] at q1
        exact sameModule_yes y.mod _ _ _ q1 q2
      have c0 := (B.cell (p := ⟨b, off + k * 8 + 0, none⟩) hbn).trans (hcells k x hx 0 (by omega))
      have c1 := (B.cell (p := ⟨b, off + k * 8 + 1, none⟩) hbn).trans (hcells k x hx 1 (by omega))
      have c2 := (B.cell (p := ⟨b, off + k * 8 + 2, none⟩) hbn).trans (hcells k x hx 2 (by omega))
      have c3 := (B.cell (p := ⟨b, off + k * 8 + 3, none⟩) hbn).trans (hcells k x hx 3 (by omega))
      have c4 := (B.cell (p := ⟨b, off + k * 8 + 4, none⟩) hbn).trans (hcells k x hx 4 (by omega))
      have c5 := (B.cell (p := ⟨b, off + k * 8 + 5, none⟩) hbn).trans (hcells k x hx 5 (by omega))
      have c6 := (B.cell (p := ⟨b, off + k * 8 + 6, none⟩) hbn).trans (hcells k x hx 6 (by omega))
      have c7 := (B.cell (p := ⟨b, off + k * 8 + 7, none⟩) hbn).trans (hcells k x hx 7 (by omega))
      have d0 := (B.cell (p := ⟨b', off' + k * 8 + 0, none⟩) hbn').trans (hcells' k y hy 0 (by omega))
      have d1 := (B.cell (p := ⟨b', off' + k * 8 + 1, none⟩) hbn').trans (hcells' k y hy 1 (by omega))
      have d2 := (B.cell (p := ⟨b', off' + k * 8 + 2, none⟩) hbn').trans (hcells' k y hy 2 (by omega))
      have d3 := (B.cell (p := ⟨b', off' + k * 8 + 3, none⟩) hbn').trans (hcells' k y hy 3 (by omega))
      have d4 := (B.cell (p := ⟨b', off' + k * 8 + 4, none⟩) hbn').trans (hcells' k y hy 4 (by omega))
      have d5 := (B.cell (p := ⟨b', off' + k * 8 + 5, none⟩) hbn').trans (hcells' k y hy 5 (by omega))
      have d6 := (B.cell (p := ⟨b', off' + k * 8 + 6, none⟩) hbn').trans (hcells' k y hy 6 (by omega))
      have d7 := (B.cell (p := ⟨b', off' + k * 8 + 7, none⟩) hbn').trans (hcells' k y hy 7 (by omega))
      obtain ⟨⟨pe, ke, e4, _⟩, ⟨pi, ki, e5, _⟩, ⟨pp, kp, e6, _⟩⟩ := px
      obtain ⟨⟨pe', ke', e4', _⟩, ⟨pi', ki', e5', _⟩, ⟨pp', kp', e6', _⟩⟩ := py
      obtain ⟨⟨N, xa, xi, T, es, is, ps⟩, ve, vi, vp, fi⟩ := x
      obtain ⟨⟨N', xa', xi', T', es', is', ps'⟩, ve', vi', vp', fi'⟩ := y
      dsimp only at e4 e5 e6 e4' e5' e6' hfst
      subst e4 e5 e6 e4' e5' e6' hfst
      dsimp only [PV.cell] at c0 c1 c2 c3 c4 c5 c6 c7 d0 d1 d2 d3 d4 d5 d6 d7
      dsimp only [PV.modV] at HS
      rw [Nat.add_zero] at c0 d0
      clear hcells hcells' hx hy hat hat' hmod he
      generalize es.length = le at *
      generalize is.length = li at *
      generalize ps.length = lp at *
      generalize es'.length = le' at *
      generalize is'.length = li' at *
      generalize ps'.length = lp' at *
      have t0 := cell_regrown c0
      have t1 := cell_regrown c1
      have t2 := cell_regrown c2
      have t3 := cell_regrown c3
      have t4 := cell_regrown c4
      have t5 := cell_regrown c5
      have t6 := cell_regrown c6
      have t7 := cell_regrown c7
      have s0 := cell_regrown d0
      have s1 := cell_regrown d1
      have s2 := cell_regrown d2
      have s3 := cell_regrown d3
      have s4 := cell_regrown d4
      have s5 := cell_regrown d5
      have s6 := cell_regrown d6
      have s7 := cell_regrown d7
      clear c0 c1 c2 c3 c4 c5 c6 c7 d0 d1 d2 d3 d4 d5 d6 d7
      have hff : (fi != fi) = false := by simp
      have hbd : l.length ≤ 9223372036854775807 := hmax
      have hkl' : (k : Int) < (l.length : Int) := by omega
      go_wp2_with fail
      refine wp_region_quiet_below (by kernel_rfl) (by kernel_rfl) ?_
      repeat (quiet_step ((go_at_call 27; go_must (exact Calls.regrown_of (HS.out _ _)))))
      refine wpQuiet_nil ?_
      intro _ hw'
      obtain ⟨⟨dq, osq⟩, hw''⟩ := hw'
      have B5 := B.trans ((below_regrown wr dq osq).mono B.size)
      rw [← hw''] at B5
      clear hw'' t0 t1 t2 t3 t4 t5 t6 t7 s0 s1 s2 s3 s4 s5 s6 s7 HS
      have HB5 : Hid (Below w.heap.size w _) := B5
      clear B5 B
      go_wp2_with fail
      go_roundg (l.length - (k + 1))
      case measure =>
        have := HGK.out
        omega
      case rel => exact ⟨k + 1, (rfl : l.length - (k + 1) = l.length - (k + 1)), by omega, by go_num, HB5⟩
    · go_wp2
      go_ret
      exact ⟨rfl, B⟩

set_option maxHeartbeats 8000000 in
theorem sameReg_yes (K : Ker) (l l' : List PV) (v v' : Value) (w : World) (h1 : IsReg w.heap.size w v K l) (h2 : IsReg w.heap.size w v' K l') (he : l.map PV.plc = l'.map PV.plc) :
    Calls Tryz.prog 26 #[v, v'] w fun e w' => e = .returned (.bool true) ∧ Below w.heap.size w w' := by
  obtain ⟨ve, vl, rfl, hE, hL⟩ := h1
  obtain ⟨ve', vl', rfl, hE', hL'⟩ := h2
  have HX : Hid (∀ W, Below w.heap.size w W → Calls Tryz.prog 76 #[ve, ve'] W fun e w'' => e = .returned (.bool true) ∧ Below W.heap.size W w'') := fun W hb => by
    refine (sameExports_yes K.exps ve ve' W ((hE.below hb).more hb.size) ((hE'.below hb).more hb.size)).mono ?_
    rintro e w' ⟨h, q, rfl⟩
    exact ⟨h, below_drewN (Below.refl _ _) q⟩
  have HP : Hid (∀ W, Below w.heap.size w W → Calls Tryz.prog 77 #[vl, vl'] W fun e w'' => e = .returned (.bool true) ∧ Below W.heap.size W w'') := fun W hb => samePlaced_yes l l' vl vl' W ((hL.below hb).more hb.size) ((hL'.below hb).more hb.size) he
  obtain ⟨a, c, rfl, _, _⟩ := hE
  obtain ⟨a', c', rfl, _, _⟩ := hE'
  obtain ⟨⟨q, r, rfl, _, _⟩, _⟩ := hL
  obtain ⟨⟨q', r', rfl, _, _⟩, _⟩ := hL'
  obtain ⟨ma, mi, ks⟩ := K
  dsimp only at *
  clear he
  generalize ks.length = nk at *
  generalize l.length = nl at *
  generalize l'.length = nl' at *
  have hma : (ma == ma) = true := by simp
  have hmi : (mi == mi) = true := by simp
  have HB1 : Hid (Below w.heap.size w ((w.alloc (.cells #[.int .i64 ma, .int .i64 mi, .slice a nk c, .slice q nl r] 27)).alloc (.cells #[.int .i64 ma, .int .i64 mi, .slice a' nk c', .slice q' nl' r'] 27))) := ((Below.refl _ _).alloc (Nat.le_refl _) _).alloc (by simp) _
  have HC1 : Hid (CellsAt ((w.alloc (.cells #[.int .i64 ma, .int .i64 mi, .slice a nk c, .slice q nl r] 27)).alloc (.cells #[.int .i64 ma, .int .i64 mi, .slice a' nk c', .slice q' nl' r'] 27)) w.heap.size 27 #[.int .i64 ma, .int .i64 mi, .slice a nk c, .slice q nl r]) := (CellsAt.new _ _ _).kept (World.grownBy_alloc _ _ none) (by simp)
  have HD1 : Hid (CellsAt ((w.alloc (.cells #[.int .i64 ma, .int .i64 mi, .slice a nk c, .slice q nl r] 27)).alloc (.cells #[.int .i64 ma, .int .i64 mi, .slice a' nk c', .slice q' nl' r'] 27)) (w.heap.size + 1) 27 #[.int .i64 ma, .int .i64 mi, .slice a' nk c', .slice q' nl' r']) := by
    have := CellsAt.new (w.alloc (.cells #[.int .i64 ma, .int .i64 mi, .slice a nk c, .slice q nl r] 27)) 27 #[.int .i64 ma, .int .i64 mi, .slice a' nk c', .slice q' nl' r']
    rw [World.size_alloc] at this
    exact this
  go_enter Tryz.func26, Tryz.ntmps26
  go_wp2_with fail
  refine (HX.out _ HB1.out).mono ?_
  generalize ((w.alloc (.cells #[.int .i64 ma, .int .i64 mi, .slice a nk c, .slice q nl r] 27)).alloc (.cells #[.int .i64 ma, .int .i64 mi, .slice a' nk c', .slice q' nl' r'] 27)) = w1 at *
  rintro e w2 ⟨rfl, b2⟩
  have HB2 : Hid (Below w.heap.size w w2) := HB1.out.trans (b2.mono HB1.out.size)
  have HC2 : Hid (CellsAt w2 w.heap.size 27 #[.int .i64 ma, .int .i64 mi, .slice a nk c, .slice q nl r]) := HC1.out.below b2 HC1.out.lt
  have HD2 : Hid (CellsAt w2 (w.heap.size + 1) 27 #[.int .i64 ma, .int .i64 mi, .slice a' nk c', .slice q' nl' r']) := HD1.out.below b2 HD1.out.lt
  have c3 := CellsAt.cell HC2.out 3
  have d3 := CellsAt.cell HD2.out 3
  have lc := CellsAt.lt HC2.out
  have ld := CellsAt.lt HD2.out
  simp at c3 d3
  clear b2 HB1 HC1 HD1 HX
  go_wp2_with fail
  refine (HP.out _ HB2.out).mono ?_
  rintro e w3 ⟨rfl, b3⟩
  have HB3 : Hid (Below w.heap.size w w3) := HB2.out.trans (b3.mono HB2.out.size)
  clear b3 HP HB2 HC2 HD2 c3 d3 lc ld
  go_wp2
  go_ret
  exact ⟨rfl, HB3.out⟩

end Go.Proofs.YtlpnfbpgnfappaaGreat
