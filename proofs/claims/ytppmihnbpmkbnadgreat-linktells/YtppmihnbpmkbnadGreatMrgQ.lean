/- Texts that are laid together. -/
import Derived.Test.YtppmihnbpmkbnadGreatMrgP
import Derived.Test.YtppmihnbpmkbnadGreatMrgK
import Derived.Test.YtppmihnbpmkbnadGreatMrgM
import Derived.Test.YtppmihnbpmkbnadGreatMrgI

/- The contracts of package link's linker's image, image and wrong. -/
namespace Go.Proofs.YtppmihnbpmkbnadGreat
open Go.RowKit Go.PlainAid

set_option maxRecDepth 100000

/-- What a linker answers. -/
def lnRes (ads : List Int) (p : Plc) : ByteArray × Int :=
  if (patd ads (4096 + p.first * 64) p.mod.text p.mod.pats).2 ≠ 0 then (⟨#[]⟩, (patd ads (4096 + p.first * 64) p.mod.text p.mod.pats).2)
  else (fillTo (patd ads (4096 + p.first * 64) p.mod.text p.mod.pats).1 (64 * szM p.mod), 0)
theorem imgRes_ln (K : Ker) (L : List Plc) (p : Plc) : imgRes K L p = if (allRes K L p.mod).2 ≠ 0 then (⟨#[]⟩, (allRes K L p.mod).2) else lnRes (allRes K L p.mod).1 p := rfl

theorem addrsFrom_length {K : Ker} {L : List Plc} : ∀ {is : List Imp} {acc : List Int}, (addrsFrom K L acc is).2 = 0 → (addrsFrom K L acc is).1.length = acc.length + is.length
  | [], acc, _ => rfl
  | i :: r, acc, h => by
    unfold addrsFrom at h ⊢
    by_cases h0 : (addrOf K L i).2 = 0
    · rw [if_neg (by omega)] at h ⊢
      rw [addrsFrom_length h, List.length_append, List.length_cons]
      simp
      omega
    · rw [if_pos h0] at h
      exact absurd h h0
theorem allRes_length {K : Ker} {L : List Plc} {M : Mod} (h : (allRes K L M).2 = 0) : (allRes K L M).1.length = M.imps.length := by
  rcases allRes_cases K L M with ⟨h1, e⟩ | ⟨_, h1, e⟩ | ⟨_, _, e⟩
  · rw [e] at h; exact absurd h h1
  · rw [e] at h; exact absurd h h1
  · rw [e] at h ⊢
    rw [addrsFrom_length h]
    simp

set_option maxHeartbeats 4000000 in
theorem lnImage_any (x : PV) (ads : List Int) (va : Value) (w : World) (hx : PlcAt w.heap.size w x) (hf : x.mod.fits) (hr : RowOf 1 intCell w.heap.size w va ads) (hm0 : chkMod x.mod = 0) (hal : ads.length = x.mod.imps.length) (f0 : 0 ≤ x.first) (f1 : x.first ≤ 15) :
    Calls Tryz.prog 79 #[.agg #[.string x.mod.name, .int .i64 x.mod.major, .int .i64 x.mod.minor, .string x.mod.text, x.ve, x.vi, x.vp, .int .i64 x.first, va]] w fun e w' => e = .returned (.tuple #[.string (lnRes ads x.plc).1, .int .i64 (lnRes ads x.plc).2]) ∧ Below w.heap.size w w' := by
  have HS : Hid (∀ W, Below w.heap.size w W → Calls Tryz.prog 30 #[x.modV] W fun e w' => e = .returned (.tuple #[.int .i64 (szM x.mod : Int), .int .i64 0]) ∧ Below W.heap.size W w') := fun W hb => by
    have := size_any x.mod x.modV W (((hx.below hb).more hb.size).isMod) hf
    rw [if_pos hm0, hm0] at this
    exact this
  have HP : Hid (∀ W, Below w.heap.size w W → Calls Tryz.prog 124 #[.agg #[.string x.mod.name, .int .i64 x.mod.major, .int .i64 x.mod.minor, .string x.mod.text, x.ve, x.vi, x.vp, .int .i64 x.first, va]] W fun e w' => e = .returned (.tuple #[.string (patd ads (4096 + x.first * 64) x.mod.text x.mod.pats).1, .int .i64 (patd ads (4096 + x.first * 64) x.mod.text x.mod.pats).2]) ∧ Below W.heap.size W w') :=
    fun W hb => lnPatched_any x ads va W ((hx.below hb).more hb.size) ((hr.below hb).more hb.size) hm0 hal f0 f1
  have HSZ : Hid ((patd ads (4096 + x.first * 64) x.mod.text x.mod.pats).2 = 0 → (patd ads (4096 + x.first * 64) x.mod.text x.mod.pats).1.size ≤ 64 * szM x.mod) := fun h => by
    rw [patd_size h]; exact szM_le _
  have hk : szM x.mod ≤ 4 := (szM_bd hm0).2.1
  have key : lnRes ads x.plc = if (patd ads (4096 + x.first * 64) x.mod.text x.mod.pats).2 ≠ 0 then (⟨#[]⟩, (patd ads (4096 + x.first * 64) x.mod.text x.mod.pats).2) else (fillTo (patd ads (4096 + x.first * 64) x.mod.text x.mod.pats).1 (64 * szM x.mod), 0) := rfl
  generalize lnRes ads x.plc = R at *
  generalize patd ads (4096 + x.first * 64) x.mod.text x.mod.pats = pd at *
  generalize szM x.mod = n at *
  obtain ⟨⟨pe, ke, e4, _⟩, ⟨pi, ki, e5, _⟩, ⟨pp, kp, e6, _, _⟩⟩ := hx
  obtain ⟨pa, ka, rfl, _, _⟩ := hr
  obtain ⟨⟨N, ma, mi, T, es, is, ps⟩, ve, vi, vp, fi⟩ := x
  dsimp only [PV.modV] at *
  subst e4 e5 e6
  clear hm0 hal hf
  generalize es.length = le at *
  generalize is.length = li at *
  generalize ps.length = lp at *
  generalize ads.length = la at *
  obtain ⟨S, er⟩ := pd
  dsimp only at *
  have B1 : Below w.heap.size w (w.alloc (.cells #[.string N, .int .i64 ma, .int .i64 mi, .string T, .slice pe le ke, .slice pi li ki, .slice pp lp kp, .int .i64 fi, .slice pa la ka] 112)) := (Below.refl _ _).alloc (Nat.le_refl _) _
  have C1 : CellsAt (w.alloc (.cells #[.string N, .int .i64 ma, .int .i64 mi, .string T, .slice pe le ke, .slice pi li ki, .slice pp lp kp, .int .i64 fi, .slice pa la ka] 112)) w.heap.size 112 #[.string N, .int .i64 ma, .int .i64 mi, .string T, .slice pe le ke, .slice pi li ki, .slice pp lp kp, .int .i64 fi, .slice pa la ka] := CellsAt.new _ _ _
  go_enter Tryz.func79, Tryz.ntmps79
  go_wp2_with fail
  refine (HS.out _ B1).mono ?_
  rintro e w2 ⟨rfl, b2⟩
  have B2 := B1.trans (b2.mono B1.size)
  have C2 := C1.below b2 C1.lt
  clear b2 C1 HS B1
  have c0 := C2.cell 0
  have c1 := C2.cell 1
  have c2 := C2.cell 2
  have c3 := C2.cell 3
  have c4 := C2.cell 4
  have c5 := C2.cell 5
  have c6 := C2.cell 6
  have c7 := C2.cell 7
  have c8 := C2.cell 8
  have hlt := C2.lt
  simp at c0 c1 c2 c3 c4 c5 c6 c7 c8
  go_wp2_with fail
  refine (HP.out _ B2).mono ?_
  rintro e w3 ⟨rfl, b3⟩
  have B3 := B2.trans (b3.mono B2.size)
  clear HP c0 c1 c2 c3 c4 c5 c6 c7 c8 hlt C2
  by_cases hq : er = 0
  · subst hq
    have HF : Hid (∀ W, Calls Tryz.prog 37 #[.string S, .int .i64 n] W fun e w' => e = .returned (.string (fillTo S (64 * n))) ∧ Below W.heap.size W w') := fun W => filled_any S n W (by omega) (HSZ.out rfl)
    have HR : Hid (R = (fillTo S (64 * n), 0)) := by
      show R = _
      rw [key]; rfl
    clear key HSZ
    generalize fillTo S (64 * n) = F at *
    go_wp2_with fail
    refine (HF.out _).mono ?_
    rintro e w4 ⟨rfl, b4⟩
    have B4 := B3.trans (b4.mono B3.size)
    go_wp2
    go_ret2
    exact ⟨by rw [HR.out]; rfl, B4⟩
  · have HR : Hid (R = (⟨#[]⟩, er)) := by
      show R = _
      rw [key, if_pos hq]
    have hq' : (er != 0) = true := by simpa using hq
    clear key HSZ hq
    go_wp2
    go_ret2
    exact ⟨by rw [HR.out]; rfl, B3⟩

set_option maxHeartbeats 4000000 in
theorem lnOne_any (K : Ker) (vk : Value) (l : List PV) (v : Value) (x : PV) (w : World) (hK : IsKer w.heap.size w vk K) (hf : K.fits) (hrow : IsPlcs w.heap.size w v l) (hfit : ∀ x ∈ l, x.mod.fits) (hx : PlcAt w.heap.size w x) (hxf : x.mod.fits) (hm0 : chkMod x.mod = 0) (f0 : 0 ≤ x.first) (f1 : x.first ≤ 15) :
    Calls Tryz.prog 36 #[vk, v, x.val] w fun e w' => e = .returned (.tuple #[.string (imgRes K (l.map PV.plc) x.plc).1, .int .i64 (imgRes K (l.map PV.plc) x.plc).2]) ∧ Below w.heap.size w w' := by
  have HA : Hid (∀ W, Below w.heap.size w W → Calls Tryz.prog 27 #[vk, v, x.modV] W fun e w' => (∃ r, e = .returned (.tuple #[r, .int .i64 (allRes K (l.map PV.plc) x.mod).2]) ∧ RowOf 1 intCell w'.heap.size w' r (allRes K (l.map PV.plc) x.mod).1) ∧ Below W.heap.size W w') :=
    fun W hb => all_any K vk l v x.mod x.modV W ((hK.below hb).more hb.size) hf ((hrow.below hb).more hb.size) hfit (((hx.below hb).more hb.size).isMod) hxf
  have HI : Hid (∀ ads va W, Below w.heap.size w W → RowOf 1 intCell W.heap.size W va ads → ads.length = x.mod.imps.length → Calls Tryz.prog 79 #[.agg #[.string x.mod.name, .int .i64 x.mod.major, .int .i64 x.mod.minor, .string x.mod.text, x.ve, x.vi, x.vp, .int .i64 x.first, va]] W fun e w' => e = .returned (.tuple #[.string (lnRes ads x.plc).1, .int .i64 (lnRes ads x.plc).2]) ∧ Below W.heap.size W w') :=
    fun ads va W hb hr hal => lnImage_any x ads va W ((hx.below hb).more hb.size) hxf hr hm0 hal f0 f1
  have key := imgRes_ln K (l.map PV.plc) x.plc
  have HL : Hid ((allRes K (l.map PV.plc) x.mod).2 = 0 → (allRes K (l.map PV.plc) x.mod).1.length = x.mod.imps.length) := fun h => allRes_length h
  change _ = if (allRes K (l.map PV.plc) x.mod).2 ≠ 0 then (⟨#[]⟩, (allRes K (l.map PV.plc) x.mod).2) else lnRes (allRes K (l.map PV.plc) x.mod).1 x.plc at key
  generalize imgRes K (l.map PV.plc) x.plc = R at *
  generalize allRes K (l.map PV.plc) x.mod = ar at *
  obtain ⟨vke, rfl, hE⟩ := hK
  obtain ⟨qe, je, rfl, _, _⟩ := hE
  obtain ⟨⟨a, cap, rfl, _, _⟩, _⟩ := hrow
  have HN : Hid (∀ ads, lnRes ads x.plc = lnRes ads x.plc) := fun _ => rfl
  generalize (fun ads => lnRes ads x.plc) = LR at *
  obtain ⟨⟨pe, ke, e4, _⟩, ⟨pi, ki, e5, _⟩, ⟨pp, kp, e6, _, _⟩⟩ := hx
  obtain ⟨⟨N, xa, xi, T, es, is, ps⟩, ve, vi, vp, fi⟩ := x
  obtain ⟨ma, mi, ks⟩ := K
  dsimp only [PV.modV, PV.val] at *
  subst e4 e5 e6
  clear hm0 hf hxf hfit HN
  generalize es.length = le at *
  generalize is.length = li at *
  generalize ps.length = lp at *
  generalize ks.length = lk at *
  generalize l.length = ll at *
  obtain ⟨ads, er⟩ := ar
  dsimp only at *
  have B1 : Below w.heap.size w ((w.alloc (.cells #[.int .i64 ma, .int .i64 mi, .slice qe lk je] 24)).alloc (.cells #[.string N, .int .i64 xa, .int .i64 xi, .string T, .slice pe le ke, .slice pi li ki, .slice pp lp kp, .int .i64 fi] 41)) := ((Below.refl _ _).alloc (Nat.le_refl _) _).alloc (by simp) _
  have C1 : CellsAt ((w.alloc (.cells #[.int .i64 ma, .int .i64 mi, .slice qe lk je] 24)).alloc (.cells #[.string N, .int .i64 xa, .int .i64 xi, .string T, .slice pe le ke, .slice pi li ki, .slice pp lp kp, .int .i64 fi] 41)) (w.heap.size + 1) 41 #[.string N, .int .i64 xa, .int .i64 xi, .string T, .slice pe le ke, .slice pi li ki, .slice pp lp kp, .int .i64 fi] := by
    have := CellsAt.new (w.alloc (.cells #[.int .i64 ma, .int .i64 mi, .slice qe lk je] 24)) 41 #[.string N, .int .i64 xa, .int .i64 xi, .string T, .slice pe le ke, .slice pi li ki, .slice pp lp kp, .int .i64 fi]
    rw [World.size_alloc] at this
    exact this
  go_enter Tryz.func36, Tryz.ntmps36
  go_wp2_with fail
  refine (HA.out _ B1).mono ?_
  rintro e w2 ⟨⟨r, rfl, hr⟩, b2⟩
  have B2 := B1.trans (b2.mono B1.size)
  have C2 := C1.below b2 C1.lt
  clear b2 C1 HA B1
  by_cases hq : er = 0
  · subst hq
    have hal := HL.out rfl
    have HR : Hid (R = lnRes ads ⟨⟨N, xa, xi, T, es, is, ps⟩, fi⟩) := by
      show R = _
      rw [key]; rfl
    clear key HL
    have c0 := C2.cell 0
    have c1 := C2.cell 1
    have c2 := C2.cell 2
    have c3 := C2.cell 3
    have c4 := C2.cell 4
    have c5 := C2.cell 5
    have c6 := C2.cell 6
    have c7 := C2.cell 7
    have hlt := C2.lt
    simp at c0 c1 c2 c3 c4 c5 c6 c7
    have HI' : Hid (∀ W, Below w2.heap.size w2 W → Calls Tryz.prog 79 #[.agg #[.string N, .int .i64 xa, .int .i64 xi, .string T, .slice pe le ke, .slice pi li ki, .slice pp lp kp, .int .i64 fi, r]] W fun e w' => e = .returned (.tuple #[.string R.1, .int .i64 R.2]) ∧ Below W.heap.size W w') := fun W hb => by
      rw [HR.out]
      exact HI.out ads r W (B2.trans (hb.mono B2.size)) ((hr.below hb).more hb.size) hal
    obtain ⟨ra, rk, rfl, _, _⟩ := hr
    clear HI HR hal
    obtain ⟨R1, R2⟩ := R
    dsimp only at *
    go_wp2_with fail
    refine (HI'.out _ (Below.refl _ _)).mono ?_
    rintro e w3 ⟨rfl, b3⟩
    have B3 := B2.trans (b3.mono B2.size)
    go_wp2
    go_ret2
    exact ⟨rfl, B3⟩
  · have HR : Hid (R = (⟨#[]⟩, er)) := by
      show R = _
      rw [key, if_pos hq]
    have hq' : (er != 0) = true := by simpa using hq
    clear key HL hq HI
    obtain ⟨ra, rk, rfl, _, _⟩ := hr
    go_wp2
    go_ret2
    exact ⟨by rw [HR.out]; rfl, B2⟩

set_option maxHeartbeats 4000000 in
theorem lnWrong_any (K : Ker) (vk : Value) (l : List PV) (v : Value) (w : World) (hK : IsKer w.heap.size w vk K) (hf : K.fits) (hrow : IsPlcs w.heap.size w v l) (hfit : ∀ x ∈ l, x.mod.fits) :
    Calls Tryz.prog 33 #[vk, v] w fun e w' => e = .returned (.int .i64 (chkLink K (l.map PV.plc))) ∧ Below w.heap.size w w' := by
  have HC : Hid (∀ W, Below w.heap.size w W → Calls Tryz.prog 49 #[vk] W fun e w' => e = .returned (.int .i64 (chkKer K)) ∧ Below W.heap.size W w') := fun W hb => kernel_any K vk W ((hK.below hb).more hb.size) hf
  have HF : Hid (∀ W, Below w.heap.size w W → Calls Tryz.prog 26 #[v] W fun e w' => (∃ r, e = .returned (.tuple #[r, .int .i64 (chkReg (l.map PV.plc))]) ∧ RowOf 2 runCell w'.heap.size w' r (freeRes (l.map PV.plc))) ∧ Below W.heap.size W w') := fun W hb => free_any l v W ((hrow.below hb).more hb.size) hfit
  have HO : Hid (∀ W, Below w.heap.size w W → Calls Tryz.prog 25 #[v] W fun e w' => (∃ r, e = .returned (.tuple #[r, .int .i64 (ordOf (l.map PV.plc)).2]) ∧ RowOf 1 strCell w'.heap.size w' r (ordOf (l.map PV.plc)).1 ∧ CapOk r) ∧ Below W.heap.size W w') := fun W hb => order_any l v W ((hrow.below hb).more hb.size) hfit
  have key := chkLink_cases K (l.map PV.plc)
  have hoe : chkReg (l.map PV.plc) = 0 → _ := fun h => lnOrd_err h
  generalize chkLink K (l.map PV.plc) = cl at *
  obtain ⟨vke, rfl, hE⟩ := hK
  obtain ⟨qe, je, rfl, _, _⟩ := hE
  obtain ⟨⟨a, cap, rfl, _, _⟩, _⟩ := hrow
  generalize chkKer K = ck at *
  generalize l.map PV.plc = L at *
  generalize chkReg L = cr at *
  generalize freeRes L = fr at *
  generalize ordOf L = od at *
  generalize chkGraph L = cg at *
  generalize twiceFrom [] L = tw at *
  obtain ⟨oa, oe⟩ := od
  obtain ⟨ma, mi, ks⟩ := K
  dsimp only at *
  clear hf hfit
  generalize ks.length = lk at *
  generalize l.length = ll at *
  have B1 : Below w.heap.size w (w.alloc (.cells #[.int .i64 ma, .int .i64 mi, .slice qe lk je] 24)) := (Below.refl _ _).alloc (Nat.le_refl _) _
  go_enter Tryz.func33, Tryz.ntmps33
  go_wp2_with fail
  refine (HC.out _ B1).mono ?_
  rintro e w2 ⟨rfl, b2⟩
  have B2 := B1.trans (b2.mono B1.size)
  clear b2 HC B1
  rcases key with ⟨h1, rfl⟩ | ⟨rfl, h2, rfl⟩ | ⟨rfl, rfl, rfl, rfl⟩ | ⟨rfl, rfl, rfl, rfl⟩
  · have h1' : (cl != 0) = true := by simpa using h1
    clear h1
    go_wp2
    go_ret
    exact ⟨rfl, B2⟩
  all_goals
    go_wp2_with fail
    refine (HF.out _ B2).mono ?_
    rintro e w3 ⟨⟨r, rfl, ra, rc, rfl, _, _⟩, b3⟩
    have B3 := B2.trans (b3.mono B2.size)
    clear b3 HF B2
  · have h2' : (cl != 0) = true := by simpa using h2
    clear h2
    go_wp2
    go_ret
    exact ⟨rfl, B3⟩
  · obtain rfl : oe = 6 := by
      rcases hoe trivial with ⟨_, h⟩ | ⟨h, _⟩
      · exact h
      · exact absurd h (by decide)
    clear hoe
    go_wp2_with fail
    refine (HO.out _ B3).mono ?_
    rintro e w4 ⟨⟨s, rfl, ⟨sa, sc, rfl, _, _⟩, _⟩, b4⟩
    have B4 := B3.trans (b4.mono B3.size)
    go_wp2
    go_ret
    exact ⟨rfl, B4⟩
  · have h6 : (oe == 6) = false := by
      rcases hoe trivial with ⟨h, _⟩ | ⟨_, _, h | h⟩
      · exact absurd h (by decide)
      · rw [h]; rfl
      · rw [h]; rfl
    clear hoe
    go_wp2_with fail
    refine (HO.out _ B3).mono ?_
    rintro e w4 ⟨⟨s, rfl, ⟨sa, sc, rfl, _, _⟩, _⟩, b4⟩
    have B4 := B3.trans (b4.mono B3.size)
    go_wp2
    go_ret
    exact ⟨rfl, B4⟩

end Go.Proofs.YtppmihnbpmkbnadGreat

/- The contracts of link.Image and link.Area. -/
namespace Go.Proofs.YtppmihnbpmkbnadGreat
open Go.RowKit Go.PlainAid

set_option maxRecDepth 100000

theorem lnImg1_any (B : Nat) (name : ByteArray) (x : PV) (w : World) (hlt : B < w.heap.size) (hB : w.cell? ⟨B, 0, none⟩ = some (.string name)) (hat : PlcAt w.heap.size w x) :
    Calls Tryz.prog 35 #[x.val, .pointer (some ⟨B, 0, none⟩)] w fun e w' => e = .returned (.bool (x.mod.name == name)) ∧ Below w.heap.size w w' := by
  rw [← toList_beq2]
  obtain ⟨⟨pe, ke, e4, _⟩, ⟨pi, ki, e5, _⟩, ⟨pp, kp, e6, _⟩⟩ := hat
  obtain ⟨⟨N, ma, mi, T, es, is, ps⟩, ve, vi, vp, fi⟩ := x
  dsimp only at e4 e5 e6
  subst e4 e5 e6
  dsimp only [PV.val]
  generalize es.length = le at *
  generalize is.length = li at *
  generalize ps.length = lp at *
  go_enter Tryz.func35, Tryz.ntmps35
  go_wp2
  go_ret
  exact ⟨rfl, (Below.refl _ _).alloc (Nat.le_refl _) _⟩

theorem find_plc (name : ByteArray) (l : List PV) : (l.map PV.plc).find? (fun p => p.mod.name == name) = (l.find? fun x : PV => x.mod.name == name).map PV.plc := by
  rw [List.find?_map]; rfl

/-- Image, case by case. -/
theorem imageOf_cases (K : Ker) (l : List PV) (name : ByteArray) :
    (chkLink K (l.map PV.plc) ≠ 0 ∧ imageOf K (l.map PV.plc) name = (⟨#[]⟩, chkLink K (l.map PV.plc))) ∨
    (chkLink K (l.map PV.plc) = 0 ∧ ixFrom (fun x : PV => x.mod.name == name) 0 l = -1 ∧ imageOf K (l.map PV.plc) name = (⟨#[]⟩, 5)) ∨
    (chkLink K (l.map PV.plc) = 0 ∧ ∃ (j : Nat) (x : PV), l[j]? = some x ∧ ixFrom (fun x : PV => x.mod.name == name) 0 l = (j : Int) ∧ imageOf K (l.map PV.plc) name = imgRes K (l.map PV.plc) x.plc) := by
  by_cases h : chkLink K (l.map PV.plc) = 0
  · rcases ix_find (fun x : PV => x.mod.name == name) l 0 with ⟨h1, h2⟩ | ⟨j, x, h1, h2, h3⟩
    · refine .inr (.inl ⟨h, h2, ?_⟩)
      unfold imageOf
      rw [if_neg (by omega), find_plc, h1]
      rfl
    · refine .inr (.inr ⟨h, j, x, h2, by simpa using h3, ?_⟩)
      unfold imageOf
      rw [if_neg (by omega), find_plc, h1]
      rfl
  · refine .inl ⟨h, ?_⟩
    unfold imageOf
    rw [if_pos h]

theorem link_at {K : Ker} {l : List PV} (h : chkLink K (l.map PV.plc) = 0) {x : PV} (hx : x ∈ l) : chkMod x.mod = 0 ∧ 0 ≤ x.first ∧ x.first + szM x.mod ≤ 16 ∧ 1 ≤ szM x.mod := by
  obtain ⟨_, h2, h3⟩ := chkReg_zero.1 (chkLink_zero h).2.1
  have h4 := okPl_first h3 x.plc (List.mem_map.2 ⟨x, hx, rfl⟩)
  exact ⟨h2 x.plc (List.mem_map.2 ⟨x, hx, rfl⟩), h4.1, h4.2.2, h4.2.1⟩

set_option maxHeartbeats 4000000 in
theorem linkImage_any (K : Ker) (vk : Value) (l : List PV) (v : Value) (name : ByteArray) (w : World) (hK : IsKer w.heap.size w vk K) (hf : K.fits) (hrow : IsPlcs w.heap.size w v l) (hfit : ∀ x ∈ l, x.mod.fits) :
    Calls Tryz.prog 9 #[vk, v, .string name] w fun e w' => e = .returned (.tuple #[.string (imageOf K (l.map PV.plc) name).1, .int .i64 (imageOf K (l.map PV.plc) name).2]) ∧ Below w.heap.size w w' := by
  have HW : Hid (∀ W, Below w.heap.size w W → Calls Tryz.prog 33 #[vk, v] W fun e w' => e = .returned (.int .i64 (chkLink K (l.map PV.plc))) ∧ Below W.heap.size W w') := fun W hb => lnWrong_any K vk l v W ((hK.below hb).more hb.size) hf ((hrow.below hb).more hb.size) hfit
  have HI : Hid (∀ W B, Below w.heap.size w W → B < W.heap.size → W.cell? ⟨B, 0, none⟩ = some (.string name) → Calls Tryz.prog 34 #[v, .func (.func 35) #[] #[.pointer (some ⟨B, 0, none⟩)]] W fun e w' => e = .returned (.int .i64 (ixFrom (fun x : PV => x.mod.name == name) 0 l)) ∧ Below W.heap.size W w') := by
    intro W B hb hlt hB
    exact ixPlc_any l v 35 (.pointer (some ⟨B, 0, none⟩)) (fun w x => enters_of Tryz.func35 (by kernel_rfl) rfl _ w) _ W ((hrow.1.below hb).more hb.size) (fun x hx W' hb' => lnImg1_any B name x W' (Nat.lt_of_lt_of_le hlt hb'.size) ((hb'.cell (p := ⟨B, 0, none⟩) hlt).trans hB) ((((((hrow.2 x hx).below hb).more hb.size)).below hb').more hb'.size))
  have HM : Hid (chkLink K (l.map PV.plc) = 0 → ∀ x ∈ l, ∀ W, Below w.heap.size w W → Calls Tryz.prog 36 #[vk, v, x.val] W fun e w' => e = .returned (.tuple #[.string (imgRes K (l.map PV.plc) x.plc).1, .int .i64 (imgRes K (l.map PV.plc) x.plc).2]) ∧ Below W.heap.size W w') := fun h0 x hx W hb =>
    lnOne_any K vk l v x W ((hK.below hb).more hb.size) hf ((hrow.below hb).more hb.size) hfit (((hrow.2 x hx).below hb).more hb.size) (hfit x hx) (link_at h0 hx).1 (link_at h0 hx).2.1 (by have := link_at h0 hx; omega)
  have key := imageOf_cases K l name
  have hat := hrow.2
  obtain ⟨vke, rfl, hE⟩ := hK
  obtain ⟨qe, je, rfl, _, _⟩ := hE
  obtain ⟨⟨a, cap, rfl, hmax, hrow⟩, _⟩ := hrow
  generalize imageOf K (l.map PV.plc) name = R at *
  generalize chkLink K (l.map PV.plc) = cl at *
  generalize l.map PV.plc = L at *
  generalize imgRes K L = IR at *
  generalize ixFrom (fun x : PV => x.mod.name == name) 0 l = ix at *
  obtain ⟨ma, mi, ks⟩ := K
  dsimp only at *
  clear hf hfit
  generalize ks.length = lk at *
  have B1 : Below w.heap.size w ((w.alloc (.cells #[.int .i64 ma, .int .i64 mi, .slice qe lk je] 24)).alloc (.cells #[.string name] 9)) := ((Below.refl _ _).alloc (Nat.le_refl _) _).alloc (by simp) _
  have K1 : CellsAt ((w.alloc (.cells #[.int .i64 ma, .int .i64 mi, .slice qe lk je] 24)).alloc (.cells #[.string name] 9)) w.heap.size 24 #[.int .i64 ma, .int .i64 mi, .slice qe lk je] := (CellsAt.new w 24 #[.int .i64 ma, .int .i64 mi, .slice qe lk je]).kept (World.grownBy_alloc _ _ none) (by simp)
  have N1 : CellsAt ((w.alloc (.cells #[.int .i64 ma, .int .i64 mi, .slice qe lk je] 24)).alloc (.cells #[.string name] 9)) (w.heap.size + 1) 9 #[.string name] := by
    have := CellsAt.new (w.alloc (.cells #[.int .i64 ma, .int .i64 mi, .slice qe lk je] 24)) 9 #[.string name]
    rw [World.size_alloc] at this
    exact this
  go_enter Tryz.func9, Tryz.ntmps9
  go_wp2_with fail
  refine (HW.out _ B1).mono ?_
  rintro e w2 ⟨rfl, b2⟩
  have B2 := B1.trans (b2.mono B1.size)
  have K2 := K1.below b2 K1.lt
  have N2 := N1.below b2 N1.lt
  clear b2 K1 N1 B1 HW
  rcases key with ⟨h0, rfl⟩ | ⟨rfl, rfl, rfl⟩ | ⟨rfl, j, x, hx, rfl, rfl⟩
  · have h0' : (cl != 0) = true := by simpa using h0
    clear h0 HI HM
    go_wp2
    go_ret2
    exact ⟨rfl, B2⟩
  · clear HM
    go_wp2_with fail
    refine (HI.out w2 (w.heap.size + 1) B2 N2.lt (N2.cell 0)).mono ?_
    rintro e w3 ⟨rfl, b3⟩
    have B3 := B2.trans (b3.mono B2.size)
    clear HI b3
    go_wp2
    go_ret2
    exact ⟨rfl, B3⟩
  · obtain ⟨R, HRR⟩ : ∃ R, Hid (IR ⟨x.mod, x.first⟩ = R) := ⟨IR ⟨x.mod, x.first⟩, (rfl : IR ⟨x.mod, x.first⟩ = IR ⟨x.mod, x.first⟩)⟩
    have HX : Hid (∀ W, Below w.heap.size w W → Calls Tryz.prog 36 #[.agg #[.int .i64 ma, .int .i64 mi, .slice qe lk je], .slice a l.length cap, x.val] W fun e w' => e = .returned (.tuple #[.string R.1, .int .i64 R.2]) ∧ Below W.heap.size W w') := fun W hb => by
      rw [← HRR.out]
      exact HM.out (by first | rfl | trivial) x (List.mem_of_getElem? hx) W hb
    have hlt : (j : Int) < (l.length : Int) := by have := (List.getElem?_eq_some_iff.1 hx).1; omega
    have hj0 : ¬ ((j : Int) < 0) := by omega
    rcases hrow with h | ⟨b, off, rfl, hbn, hcells⟩
    · subst h; simp at hx
    go_wp2_with fail
    refine (HI.out w2 (w.heap.size + 1) B2 N2.lt (N2.cell 0)).mono ?_
    rintro e w3 ⟨rfl, b3⟩
    have B3 := B2.trans (b3.mono B2.size)
    have K3 := K2.below b3 K2.lt
    clear HI b3 HM N2 K2 B2
    have c0 := (B3.cell (p := ⟨b, off + j * 8 + 0, none⟩) hbn).trans (hcells j _ hx 0 (by omega))
    have c1 := (B3.cell (p := ⟨b, off + j * 8 + 1, none⟩) hbn).trans (hcells j _ hx 1 (by omega))
    have c2 := (B3.cell (p := ⟨b, off + j * 8 + 2, none⟩) hbn).trans (hcells j _ hx 2 (by omega))
    have c3 := (B3.cell (p := ⟨b, off + j * 8 + 3, none⟩) hbn).trans (hcells j _ hx 3 (by omega))
    have c4 := (B3.cell (p := ⟨b, off + j * 8 + 4, none⟩) hbn).trans (hcells j _ hx 4 (by omega))
    have c5 := (B3.cell (p := ⟨b, off + j * 8 + 5, none⟩) hbn).trans (hcells j _ hx 5 (by omega))
    have c6 := (B3.cell (p := ⟨b, off + j * 8 + 6, none⟩) hbn).trans (hcells j _ hx 6 (by omega))
    have c7 := (B3.cell (p := ⟨b, off + j * 8 + 7, none⟩) hbn).trans (hcells j _ hx 7 (by omega))
    obtain ⟨⟨pe, ke, e4, _⟩, ⟨pi, ki, e5, _⟩, ⟨pp, kp, e6, _⟩⟩ := hat x (List.mem_of_getElem? hx)
    obtain ⟨⟨N, xa, xi, T, es, is, ps⟩, ve, vi, vp, fi⟩ := x
    dsimp only [PV.val] at *
    subst e4 e5 e6
    dsimp only [PV.cell] at c0 c1 c2 c3 c4 c5 c6 c7
    rw [Nat.add_zero] at c0
    generalize es.length = le at *
    generalize is.length = li at *
    generalize ps.length = lp at *
    have d0 := K3.cell 0
    have d1 := K3.cell 1
    have d2 := K3.cell 2
    simp at d0 d1 d2
    have r0 := cell_regrown c0
    have r1 := cell_regrown c1
    have r2 := cell_regrown c2
    have r3 := cell_regrown c3
    have r4 := cell_regrown c4
    have r5 := cell_regrown c5
    have r6 := cell_regrown c6
    have r7 := cell_regrown c7
    have s0 := cell_regrown d0
    have s1 := cell_regrown d1
    have s2 := cell_regrown d2
    have HX' : Hid (∀ d os, _) := fun d os => HX.out _ (B3.trans ((below_regrown w3 d os).mono B3.size))
    have hbn3 : b < w3.heap.size := Nat.lt_of_lt_of_le hbn B3.size
    have hk3 := K3.lt
    obtain ⟨R1, R2⟩ := R
    dsimp only at HX'
    clear hcells hx HX K3 hat
    go_wp2_with fail
    refine wp_region_quiet_below (by kernel_rfl) (by kernel_rfl) ?_
    repeat (quiet_step ((go_at_call 36; go_must (exact Calls.regrown_of (HX'.out _ _)))))
    refine wpQuiet_nil ?_
    intro w7 hw7
    obtain ⟨⟨dq, osq⟩, hw7⟩ := hw7
    have b7 := below_regrown w3 dq osq
    rw [← hw7] at b7
    clear hw7
    have B7 := B3.trans (b7.mono B3.size)
    go_wp2
    go_ret2
    refine ⟨?_, B7⟩
    show _ = Ending.returned (.tuple #[.string (IR ⟨⟨N, xa, xi, T, es, is, ps⟩, fi⟩).1, .int .i64 (IR ⟨⟨N, xa, xi, T, es, is, ps⟩, fi⟩).2])
    rw [HRR.out]
    rfl

/-- What Area has while it goes on. -/
theorem area_step {K : Ker} {L : List Plc} {s : ByteArray} {p : Plc} {r : List Plc} : areaFrom K L s (p :: r) = if (imgRes K L p).2 ≠ 0 then (⟨#[]⟩, (imgRes K L p).2) else areaFrom K L (fillTo s (64 * p.first.toNat) ++ (imgRes K L p).1) r := rfl
set_option maxHeartbeats 4000000 in
theorem linkArea_any (K : Ker) (vk : Value) (l : List PV) (v : Value) (w : World) (hK : IsKer w.heap.size w vk K) (hf : K.fits) (hrow : IsPlcs w.heap.size w v l) (hfit : ∀ x ∈ l, x.mod.fits) :
    Calls Tryz.prog 10 #[vk, v] w fun e w' => e = .returned (.tuple #[.string (areaOf K (l.map PV.plc)).1, .int .i64 (areaOf K (l.map PV.plc)).2]) ∧ Below w.heap.size w w' := by
  have HW : Hid (∀ W, Below w.heap.size w W → Calls Tryz.prog 33 #[vk, v] W fun e w' => e = .returned (.int .i64 (chkLink K (l.map PV.plc))) ∧ Below W.heap.size W w') := fun W hb => lnWrong_any K vk l v W ((hK.below hb).more hb.size) hf ((hrow.below hb).more hb.size) hfit
  have HM : Hid (chkLink K (l.map PV.plc) = 0 → ∀ x ∈ l, ∀ W, Below w.heap.size w W → Calls Tryz.prog 36 #[vk, v, x.val] W fun e w' => e = .returned (.tuple #[.string (imgRes K (l.map PV.plc) x.plc).1, .int .i64 (imgRes K (l.map PV.plc) x.plc).2]) ∧ Below W.heap.size W w') := fun h0 x hx W hb =>
    lnOne_any K vk l v x W ((hK.below hb).more hb.size) hf ((hrow.below hb).more hb.size) hfit (((hrow.2 x hx).below hb).more hb.size) (hfit x hx) (link_at h0 hx).1 (link_at h0 hx).2.1 (by have := link_at h0 hx; omega)
  have HOK : Hid (chkLink K (l.map PV.plc) = 0 → okPl 0 (l.map PV.plc) ∧ l.length ≤ 8) := fun h => by
    have := chkReg_zero.1 (chkLink_zero h).2.1
    exact ⟨this.2.2, by simpa using this.1⟩
  have HIS : Hid (∀ p, (imgRes K (l.map PV.plc) p).2 = 0 → (imgRes K (l.map PV.plc) p).1.size = 64 * szM p.mod) := fun p h => imgRes_size h
  have key : (chkLink K (l.map PV.plc) ≠ 0 ∧ areaOf K (l.map PV.plc) = (⟨#[]⟩, chkLink K (l.map PV.plc))) ∨ (chkLink K (l.map PV.plc) = 0 ∧ areaOf K (l.map PV.plc) = areaFrom K (l.map PV.plc) ⟨#[]⟩ (l.map PV.plc)) := by
    unfold areaOf
    by_cases h : chkLink K (l.map PV.plc) = 0
    · exact .inr ⟨h, by rw [if_neg (by omega)]⟩
    · exact .inl ⟨h, by rw [if_pos h]⟩
  have hat := hrow.2
  obtain ⟨vke, rfl, hE⟩ := hK
  obtain ⟨qe, je, rfl, _, _⟩ := hE
  obtain ⟨⟨a, cap, rfl, hmax, hrow⟩, _⟩ := hrow
  generalize areaOf K (l.map PV.plc) = R at *
  generalize chkLink K (l.map PV.plc) = cl at *
  have HAC : Hid (∀ s p r, areaFrom K (l.map PV.plc) s (p :: r) = if (imgRes K (l.map PV.plc) p).2 ≠ 0 then (⟨#[]⟩, (imgRes K (l.map PV.plc) p).2) else areaFrom K (l.map PV.plc) (fillTo s (64 * p.first.toNat) ++ (imgRes K (l.map PV.plc) p).1) r) := fun _ _ _ => rfl
  have HAN : Hid (∀ s, areaFrom K (l.map PV.plc) s [] = (fillTo s 1024, 0)) := fun _ => rfl
  generalize areaFrom K (l.map PV.plc) = AF at *
  generalize hLL : l.map PV.plc = L at *
  generalize imgRes K L = IR at *
  obtain ⟨ma, mi, ks⟩ := K
  dsimp only at *
  clear hf hfit
  generalize ks.length = lk at *
  have B1 : Below w.heap.size w (w.alloc (.cells #[.int .i64 ma, .int .i64 mi, .slice qe lk je] 24)) := (Below.refl _ _).alloc (Nat.le_refl _) _
  have K1 : CellsAt (w.alloc (.cells #[.int .i64 ma, .int .i64 mi, .slice qe lk je] 24)) w.heap.size 24 #[.int .i64 ma, .int .i64 mi, .slice qe lk je] := CellsAt.new w 24 #[.int .i64 ma, .int .i64 mi, .slice qe lk je]
  go_enter Tryz.func10, Tryz.ntmps10
  go_wp2_with fail
  refine (HW.out _ B1).mono ?_
  rintro e w2 ⟨rfl, b2⟩
  have B2 := B1.trans (b2.mono B1.size)
  have K2 := K1.below b2 K1.lt
  clear b2 K1 B1 HW
  rcases key with ⟨h0, rfl⟩ | ⟨rfl, rfl⟩
  · have h0' : (cl != 0) = true := by simpa using h0
    clear h0 HM
    go_wp2
    go_ret2
    exact ⟨rfl, B2⟩
  · have HMM : Hid (∀ x ∈ l, ∀ W, Below w.heap.size w W → Calls Tryz.prog 36 #[.agg #[.int .i64 ma, .int .i64 mi, .slice qe lk je], .slice a l.length cap, x.val] W fun e w' => e = .returned (.tuple #[.string (IR x.plc).1, .int .i64 (IR x.plc).2]) ∧ Below W.heap.size W w') := HM.out (by first | rfl | trivial)
    obtain ⟨hok, h8⟩ := HOK.out (by first | rfl | trivial)
    have HO2 : Hid (okPl 0 L) := hok
    clear HM HOK hok
    go_wp2_with fail
    go_loopw [7, 20] (fun f i wr => ∃ (k : Nat) (S : ByteArray), k ≤ l.length ∧ i = .int .i64 k ∧ f = .string S ∧ Hid (∃ e : Nat, S.size ≤ 64 * e ∧ okPl e (L.drop k)) ∧ Hid (AF ⟨#[]⟩ L = AF S (L.drop k)) ∧ Below w2.heap.size w2 wr) (fun _ i _ => l.length - (intOf i).toNat)
    case atStart => exact ⟨0, ⟨#[]⟩, Nat.zero_le _, rfl, rfl, (⟨0, Nat.le_refl _, HO2.out⟩ : ∃ e : Nat, (⟨#[]⟩ : ByteArray).size ≤ 64 * e ∧ okPl e (L.drop 0)), (by show AF ⟨#[]⟩ L = AF ⟨#[]⟩ (L.drop 0); rfl), Below.refl _ _⟩
    case round =>
      obtain ⟨k, S, hk, rfl, rfl, HSZ, HCC, B⟩ := hrel
      have B' : Below w.heap.size w wr := B2.trans (B.mono B2.size)
      by_cases hlt : k < l.length
      · obtain ⟨x, hx⟩ : ∃ x, l[k]? = some x := ⟨_, List.getElem?_eq_getElem hlt⟩
        have hLx : L[k]? = some x.plc := by rw [← hLL, List.getElem?_map, hx]; rfl
        rcases hrow with h | ⟨b, off, rfl, hbn, hcells⟩
        · subst h; simp at hlt
        have HR : Hid (AF ⟨#[]⟩ L = if (IR x.plc).2 ≠ 0 then (⟨#[]⟩, (IR x.plc).2) else AF (fillTo S (64 * x.first.toNat) ++ (IR x.plc).1) (L.drop (k + 1))) := by
          show AF ⟨#[]⟩ L = _
          rw [HCC.out, drop_at hLx, HAC.out]
          rfl
        obtain ⟨e, he, hpl⟩ := HSZ.out
        rw [drop_at hLx] at hpl
        obtain ⟨p1, p2, p3, p4⟩ := hpl
        change (e : Int) ≤ x.first at p1
        change 1 ≤ szM x.mod at p2
        change x.first + (szM x.mod : Int) ≤ 16 at p3
        change okPl (x.first + (szM x.mod : Int)) (L.drop (k + 1)) at p4
        have HIX : Hid ((IR x.plc).2 = 0 → (IR x.plc).1.size = 64 * szM x.mod) := HIS.out x.plc
        obtain ⟨n, hn⟩ : ∃ n : Nat, x.first = n := ⟨x.first.toNat, by omega⟩
        have HX := HMM.out x (List.mem_of_getElem? hx)
        obtain ⟨R, HRR⟩ : ∃ R, Hid (IR x.plc = R) := ⟨IR x.plc, (rfl : IR x.plc = IR x.plc)⟩
        rw [HRR.out] at HX HR HIX
        have c0 := (B'.cell (p := ⟨b, off + k * 8 + 0, none⟩) hbn).trans (hcells k _ hx 0 (by omega))
        have c1 := (B'.cell (p := ⟨b, off + k * 8 + 1, none⟩) hbn).trans (hcells k _ hx 1 (by omega))
        have c2 := (B'.cell (p := ⟨b, off + k * 8 + 2, none⟩) hbn).trans (hcells k _ hx 2 (by omega))
        have c3 := (B'.cell (p := ⟨b, off + k * 8 + 3, none⟩) hbn).trans (hcells k _ hx 3 (by omega))
        have c4 := (B'.cell (p := ⟨b, off + k * 8 + 4, none⟩) hbn).trans (hcells k _ hx 4 (by omega))
        have c5 := (B'.cell (p := ⟨b, off + k * 8 + 5, none⟩) hbn).trans (hcells k _ hx 5 (by omega))
        have c6 := (B'.cell (p := ⟨b, off + k * 8 + 6, none⟩) hbn).trans (hcells k _ hx 6 (by omega))
        have c7 := (B'.cell (p := ⟨b, off + k * 8 + 7, none⟩) hbn).trans (hcells k _ hx 7 (by omega))
        obtain ⟨⟨pe, ke, e4, _⟩, ⟨pi, ki, e5, _⟩, ⟨pp, kp, e6, _⟩⟩ := hat x (List.mem_of_getElem? hx)
        generalize szM x.mod = zz at *
        obtain ⟨⟨N, xa, xi, T, es, is, ps⟩, ve, vi, vp, fi⟩ := x
        dsimp only [PV.val] at *
        subst e4 e5 e6 hn
        dsimp only [PV.cell] at c0 c1 c2 c3 c4 c5 c6 c7
        rw [Nat.add_zero] at c0
        rw [Int.toNat_natCast] at HR
        have HF : Hid (∀ W, Calls Tryz.prog 37 #[.string S, .int .i64 n] W fun e w' => e = .returned (.string (fillTo S (64 * n))) ∧ Below W.heap.size W w') := fun W => filled_any S n W (by omega) (by omega)
        have hfs : Hid ((fillTo S (64 * n)).size = 64 * n) := show (fillTo S (64 * n)).size = 64 * n from fillTo_size (by omega)
        generalize fillTo S (64 * n) = F at *
        generalize es.length = le at *
        generalize is.length = li at *
        generalize ps.length = lp at *
        have K3 := K2.below B K2.lt
        have d0 := K3.cell 0
        have d1 := K3.cell 1
        have d2 := K3.cell 2
        have hk3 := K3.lt
        simp at d0 d1 d2
        have HXX : Hid (∀ W, Below w.heap.size w W → Calls Tryz.prog 36 #[.agg #[.int .i64 ma, .int .i64 mi, .slice qe lk je], .slice (some ⟨b, off, none⟩) l.length cap, .agg #[.string N, .int .i64 xa, .int .i64 xi, .string T, .slice pe le ke, .slice pi li ki, .slice pp lp kp, .int .i64 n]] W fun e w' => e = .returned (.tuple #[.string R.1, .int .i64 R.2]) ∧ Below W.heap.size W w') := HX
        have HB6 : Hid (Below w2.heap.size w2 (wr.alloc (.cells #[.string N, .int .i64 xa, .int .i64 xi, .string T, .slice pe le ke, .slice pi li ki, .slice pp lp kp, .int .i64 n] 41))) := B.alloc B.size _
        have HC6 : Hid (CellsAt (wr.alloc (.cells #[.string N, .int .i64 xa, .int .i64 xi, .string T, .slice pe le ke, .slice pi li ki, .slice pp lp kp, .int .i64 n] 41)) wr.heap.size 41 #[.string N, .int .i64 xa, .int .i64 xi, .string T, .slice pe le ke, .slice pi li ki, .slice pp lp kp, .int .i64 n]) := CellsAt.new wr 41 #[.string N, .int .i64 xa, .int .i64 xi, .string T, .slice pe le ke, .slice pi li ki, .slice pp lp kp, .int .i64 n]
        have HP4 : Hid (okPl ((n + zz : Nat) : Int) (L.drop (k + 1))) := by
          show okPl ((n + zz : Nat) : Int) (L.drop (k + 1))
          rw [show ((n + zz : Nat) : Int) = (n : Int) + (zz : Int) by omega]
          exact p4
        obtain ⟨R1, R2⟩ := R
        dsimp only at HXX HR HIX
        clear hcells hx hLx HX HMM HAC HAN HIS HSZ HCC HRR p4 hat HO2 K3
        go_wp2_with fail
        refine (HXX.out _ (B2.trans (HB6.out.mono B2.size))).mono ?_
        rintro e w7 ⟨rfl, b7⟩
        have E7 := HB6.out.trans (b7.mono HB6.out.size)
        have F7 := B2.trans (E7.mono B2.size)
        have C7 := HC6.out.below b7 HC6.out.lt
        have g7 := C7.cell 7
        have hg7 := C7.lt
        simp at g7
        clear HB6 HC6 HXX c0 c1 c2 c3 c4 c5 c6 c7 d0 d1 d2 b7
        by_cases hq : R2 = 0
        · subst hq
          have HR2 : Hid (AF ⟨#[]⟩ L = AF (F ++ R1) (L.drop (k + 1))) := by
            show AF ⟨#[]⟩ L = _
            rw [HR.out]; rfl
          have HS2 : Hid (∃ e : Nat, (F ++ R1).size ≤ 64 * e ∧ okPl e (L.drop (k + 1))) := by
            refine ⟨n + zz, ?_, HP4.out⟩
            rw [ByteArray.size_append, hfs.out, HIX.out rfl]
            omega
          have hbig : ¬ (9223372036854775807 < F.size + R1.size) := by
            rw [hfs.out, HIX.out rfl]
            omega
          clear HR HIX HP4 hfs
          go_wp2_with fail
          refine (HF.out _).mono ?_
          rintro e w8 ⟨rfl, b8⟩
          have E8 := E7.trans (b8.mono E7.size)
          clear HF
          go_wp2
          exact ⟨⟨k + 1, F ++ R1, by omega, by go_num, rfl, HS2, HR2, E8⟩, by simp [intOf]; omega⟩
        · have hq' : (R2 != 0) = true := by simpa using hq
          have HR2 : Hid (AF ⟨#[]⟩ L = (⟨#[]⟩, R2)) := by
            show AF ⟨#[]⟩ L = _
            rw [HR.out, if_pos hq]
          clear HR hq HIX HF
          go_wp2
          go_ret2
          exact ⟨by rw [HR2.out]; rfl, F7⟩
      · obtain rfl : k = l.length := by omega
        have HZ : Hid (AF ⟨#[]⟩ L = (fillTo S 1024, 0)) := by
          show AF ⟨#[]⟩ L = (fillTo S 1024, 0)
          rw [HCC.out, show L.drop l.length = [] from by rw [← hLL, ← List.length_map (f := PV.plc)]; exact List.drop_length, HAN.out]
        have HF : Hid (∀ W, Calls Tryz.prog 37 #[.string S, .int .i64 16] W fun e w' => e = .returned (.string (fillTo S 1024)) ∧ Below W.heap.size W w') := fun W => by
          obtain ⟨e, he, hpl⟩ := HSZ.out
          have := okPl_end hpl
          exact filled_any S 16 W (by omega) (by omega)
        generalize fillTo S 1024 = F at *
        clear HSZ HCC HMM
        go_wp2_with fail
        refine (HF.out _).mono ?_
        rintro e w8 ⟨rfl, b8⟩
        have E8 := B'.trans (b8.mono B'.size)
        go_wp2
        go_ret2
        exact ⟨by rw [HZ.out]; rfl, E8⟩

end Go.Proofs.YtppmihnbpmkbnadGreat

/- The contracts of the document's CheckKernel, CheckModules, exportAt, PlaceOf. -/
namespace Go.Proofs.YtppmihnbpmkbnadGreat
open Go.RowKit Go.PlainAid

set_option maxRecDepth 100000

set_option maxHeartbeats 1000000 in
theorem checkKernel_any (K : Ker) (v : Value) (w : World) (hK : IsKer w.heap.size w v K) (hf : K.fits) :
    Calls Tryz.prog 38 #[v] w fun e w' => e = .returned (.int .i64 (chkKer K)) ∧ Below w.heap.size w w' := by
  obtain ⟨ve, rfl, hE⟩ := hK
  have HE : Hid (∀ w', Below w.heap.size w w' → K.exps.length ≤ 8 → Calls Tryz.prog 82 #[ve, .int .i64 4096] w' fun e w'' => e = .returned (.int .i64 (chkExps 4096 [] K.exps)) ∧ Below w'.heap.size w' w'') :=
    fun w' hb hl => checkExports_any K.exps ve _ w' ((hE.below hb).more hb.size) hf hl (by decide) (by decide)
  obtain ⟨pe, ke, rfl, _, hE⟩ := hE
  clear hE hf
  have key : (betw K.major 0 255 = false ∧ chkKer K = 3) ∨ (betw K.major 0 255 = true ∧ betw K.minor 0 255 = false ∧ chkKer K = 3) ∨ (betw K.major 0 255 = true ∧ betw K.minor 0 255 = true ∧ 8 < K.exps.length ∧ chkKer K = 2) ∨ (betw K.major 0 255 = true ∧ betw K.minor 0 255 = true ∧ K.exps.length ≤ 8 ∧ chkKer K = chkExps 4096 [] K.exps) := by
    unfold chkKer isVer
    cases h1 : betw K.major 0 255
    · exact .inl ⟨rfl, rfl⟩
    cases h2 : betw K.minor 0 255
    · exact .inr (.inl ⟨rfl, rfl, rfl⟩)
    · by_cases h3 : 8 < K.exps.length
      · exact .inr (.inr (.inl ⟨rfl, rfl, h3, by rw [if_neg (by decide), if_pos h3]⟩))
      · exact .inr (.inr (.inr ⟨rfl, rfl, by omega, by rw [if_neg (by decide), if_neg h3]⟩))
  generalize chkKer K = R at *
  generalize chkExps 4096 [] K.exps = ce at *
  obtain ⟨ma, mi, es⟩ := K
  dsimp only at *
  generalize es.length = le at *
  have HW1 : Hid (Below w.heap.size w (w.alloc (.cells #[.int .i64 ma, .int .i64 mi, .slice pe le ke] 24))) := (Below.refl _ _).alloc (Nat.le_refl _) _
  rcases key with ⟨h1, rfl⟩ | ⟨h1, h2, rfl⟩ | ⟨h1, h2, h3, rfl⟩ | ⟨h1, h2, h3, rfl⟩
  · go_enter Tryz.func38, Tryz.ntmps38
    go_wp2_with (go_at_call 81; refine (between_any _ _ _ _).mono ?_; rintro e w' ⟨rfl, rfl⟩)
    go_ret
    exact ⟨rfl, HW1.out⟩
  · go_enter Tryz.func38, Tryz.ntmps38
    go_wp2_with (go_at_call 81; refine (between_any _ _ _ _).mono ?_; rintro e w' ⟨rfl, rfl⟩)
    go_ret
    exact ⟨rfl, HW1.out⟩
  · have h3' : (8 : Int) < le := by omega
    go_enter Tryz.func38, Tryz.ntmps38
    go_wp2_with (go_at_call 81; refine (between_any _ _ _ _).mono ?_; rintro e w' ⟨rfl, rfl⟩)
    go_ret
    exact ⟨rfl, HW1.out⟩
  · have h3' : decide ((8 : Int) < le) = false := decide_eq_false (by omega)
    have h3'' : decide (8 < le) = false := decide_eq_false (by omega)
    go_enter Tryz.func38, Tryz.ntmps38
    go_wp2_with (go_at_call 81; refine (between_any _ _ _ _).mono ?_; rintro e w' ⟨rfl, rfl⟩)
    refine (HE.out _ HW1.out h3).mono ?_
    rintro e w1 ⟨rfl, b1⟩
    go_wp2
    go_ret
    exact ⟨rfl, HW1.out.trans (b1.mono HW1.out.size)⟩

theorem chkPls_step2 (x : PV) (l : List PV) : (chkMod x.mod ≠ 0 ∧ chkPls ((x :: l).map PV.plc) = chkMod x.mod) ∨ (chkMod x.mod = 0 ∧ betw x.first 0 15 = false ∧ chkPls ((x :: l).map PV.plc) = 3) ∨ (chkMod x.mod = 0 ∧ betw x.first 0 15 = true ∧ chkPls ((x :: l).map PV.plc) = chkPls (l.map PV.plc)) := by
  have hs : chkPls ((x :: l).map PV.plc) = if chkMod x.mod ≠ 0 then chkMod x.mod else if betw x.first 0 15 = false then 3 else chkPls (l.map PV.plc) := rfl
  rw [hs]
  by_cases h0 : chkMod x.mod = 0
  · cases h1 : betw x.first 0 15
    · exact .inr (.inl ⟨h0, rfl, by rw [if_neg (by omega), if_pos rfl]⟩)
    · exact .inr (.inr ⟨h0, rfl, by rw [if_neg (by omega), if_neg (by decide)]⟩)
  · exact .inl ⟨h0, by rw [if_pos h0]⟩

set_option maxHeartbeats 2000000 in
theorem checkModules_any (l : List PV) (v : Value) (w : World) (hrow : IsPlcs w.heap.size w v l) (hfit : ∀ x ∈ l, x.mod.fits) :
    Calls Tryz.prog 83 #[v, .bool true, .bool false] w fun e w' => e = .returned (.int .i64 (chkPlaced (l.map PV.plc))) ∧ Below w.heap.size w w' := by
  have HC0 : Hid (∀ x ∈ l, ∀ W, Below w.heap.size w W → Calls Tryz.prog 132 #[x.modV] W fun e w' => e = .returned (.int .i64 (chkMod x.mod)) ∧ Below W.heap.size W w') := fun x hx W hb => checkModule_any x.mod x.modV W (((hrow.2 x hx).below hb).more hb.size |>.isMod) (hfit x hx)
  have hat := hrow.2
  obtain ⟨⟨a, cap, rfl, _, hrow⟩, _⟩ := hrow
  by_cases h8 : 8 < l.length
  · have e1 : chkPlaced (l.map PV.plc) = 2 := by
      unfold chkPlaced
      rw [if_pos (by simpa using h8)]
    rw [e1]
    have h8' : (8 : Int) < l.length := by omega
    clear e1 HC0 hat hrow
    go_enter Tryz.func83, Tryz.ntmps83
    go_wp2
    go_ret
    exact ⟨rfl, Below.refl _ _⟩
  · have e1 : chkPlaced (l.map PV.plc) = chkPls (l.map PV.plc) := by
      unfold chkPlaced
      rw [if_neg (by simpa using h8)]
    rw [e1]
    have h8' : decide ((8 : Int) < l.length) = false := decide_eq_false (by omega)
    have h8'' : decide (8 < l.length) = false := decide_eq_false (by omega)
    clear e1
    go_enter Tryz.func83, Tryz.ntmps83
    go_wp2_with fail
    go_loopw [7] (fun i wr => ∃ (k : Nat), k ≤ l.length ∧ i = .int .i64 k ∧ Hid (chkPls (l.map PV.plc) = chkPls ((l.drop k).map PV.plc)) ∧ Below w.heap.size w wr) (fun i _ => l.length - (intOf i).toNat)
    case atStart => exact ⟨0, Nat.zero_le _, rfl, by show chkPls (l.map PV.plc) = chkPls ((l.drop 0).map PV.plc); rfl, Below.refl _ _⟩
    case round =>
      obtain ⟨k, hk, rfl, HC, B⟩ := hrel
      by_cases hlt : k < l.length
      · obtain ⟨x, hx⟩ : ∃ x, l[k]? = some x := ⟨_, List.getElem?_eq_getElem hlt⟩
        rcases hrow with h | ⟨b, off, rfl, hbn, hcells⟩
        · subst h; simp at hlt
        have key := chkPls_step2 x (l.drop (k + 1))
        have HR : Hid (chkPls (l.map PV.plc) = chkPls ((x :: l.drop (k + 1)).map PV.plc)) := by
          show chkPls (l.map PV.plc) = _
          rw [HC.out, drop_at hx]
        have HM : Hid (∀ W, Below w.heap.size w W → Calls Tryz.prog 132 #[x.modV] W fun e w' => e = .returned (.int .i64 (chkMod x.mod)) ∧ Below W.heap.size W w') := HC0.out x (List.mem_of_getElem? hx)
        obtain ⟨⟨pe, ke, e4, _⟩, ⟨pi, ki, e5, _⟩, ⟨pp, kp, e6, _⟩⟩ := hat x (List.mem_of_getElem? hx)
        obtain ⟨⟨N, ma, mi, T, es, is, ps⟩, ve, vi, vp, fi⟩ := x
        dsimp only at e4 e5 e6
        subst e4 e5 e6
        have c0 := (B.cell (p := ⟨b, off + k * 8 + 0, none⟩) hbn).trans (hcells k _ hx 0 (by omega))
        have c1 := (B.cell (p := ⟨b, off + k * 8 + 1, none⟩) hbn).trans (hcells k _ hx 1 (by omega))
        have c2 := (B.cell (p := ⟨b, off + k * 8 + 2, none⟩) hbn).trans (hcells k _ hx 2 (by omega))
        have c3 := (B.cell (p := ⟨b, off + k * 8 + 3, none⟩) hbn).trans (hcells k _ hx 3 (by omega))
        have c4 := (B.cell (p := ⟨b, off + k * 8 + 4, none⟩) hbn).trans (hcells k _ hx 4 (by omega))
        have c5 := (B.cell (p := ⟨b, off + k * 8 + 5, none⟩) hbn).trans (hcells k _ hx 5 (by omega))
        have c6 := (B.cell (p := ⟨b, off + k * 8 + 6, none⟩) hbn).trans (hcells k _ hx 6 (by omega))
        have q7 := hcells k _ hx 7 (by omega)
        dsimp only [PV.cell, PV.modV] at c0 c1 c2 c3 c4 c5 c6 q7 HM
        rw [Nat.add_zero] at c0
        clear HC HC0 hcells hx hat
        dsimp only at key
        generalize chkMod ⟨N, ma, mi, T, es, is, ps⟩ = cm at key HM
        generalize chkPls (List.map PV.plc (⟨⟨N, ma, mi, T, es, is, ps⟩, .slice pe es.length ke, .slice pi is.length ki, .slice pp ps.length kp, fi⟩ :: l.drop (k + 1))) = R at key HR
        generalize es.length = le at *
        generalize is.length = li at *
        generalize ps.length = lp at *
        go_wp2_with fail
        refine (HM.out _ B).mono ?_
        rintro e w2 ⟨rfl, b2⟩
        have B2 := B.trans (b2.mono B.size)
        have X7 := (B2.cell (p := ⟨b, off + k * 8 + 7, none⟩) hbn).trans q7
        clear b2 c0 c1 c2 c3 c4 c5 c6 q7 HM
        rcases key with ⟨h1, rfl⟩ | ⟨rfl, h2, rfl⟩ | ⟨rfl, h2, rfl⟩
        · have h1' : (R != 0) = true := by simpa using h1
          go_wp2
          go_ret
          exact ⟨by rw [HR.out]; rfl, B2⟩
        · go_wp2_with (go_at_call 81; refine (between_any _ _ _ _).mono ?_; rintro e w' ⟨rfl, rfl⟩)
          go_ret
          exact ⟨by rw [HR.out]; rfl, B2⟩
        · go_wp2_with (go_at_call 81; refine (between_any _ _ _ _).mono ?_; rintro e w' ⟨rfl, rfl⟩)
          exact ⟨⟨k + 1, by omega, by go_num, HR.out, B2⟩, by simp [intOf]; omega⟩
      · obtain rfl : k = l.length := by omega
        have HZ : Hid (chkPls (l.map PV.plc) = 0) := by
          show chkPls (l.map PV.plc) = 0
          rw [HC.out, List.drop_length]; rfl
        go_wp2
        go_ret
        exact ⟨by rw [HZ.out]; rfl, B⟩

def posOf : Option Exp → Int
  | none => -1
  | some x => x.pos

set_option maxHeartbeats 1000000 in
theorem exportAt_any (l : List Exp) (v : Value) (name : ByteArray) (w : World) (hrow : RowOf 2 Exp.cell w.heap.size w v l) :
    Calls Tryz.prog 133 #[v, .string name] w fun e w' => e = .returned (.int .i64 (posOf (expOf l name))) ∧ Below w.heap.size w w' := by
  obtain ⟨a, cap, rfl, _, hrow⟩ := hrow
  go_enter Tryz.func133, Tryz.ntmps133
  go_wp2_with fail
  go_loopw [5] (fun i wr => ∃ (k : Nat), k ≤ l.length ∧ i = .int .i64 k ∧ Hid (expOf l name = expOf (l.drop k) name) ∧ Below w.heap.size w wr) (fun i _ => l.length - (intOf i).toNat)
  case atStart => exact ⟨0, Nat.zero_le _, rfl, by show expOf l name = expOf (l.drop 0) name; rfl, Below.refl _ _⟩
  case round =>
    obtain ⟨k, hk, rfl, HC, B⟩ := hrel
    by_cases hlt : k < l.length
    · obtain ⟨x, hx⟩ : ∃ x, l[k]? = some x := ⟨_, List.getElem?_eq_getElem hlt⟩
      rcases hrow with h | ⟨b, off, rfl, hbn, hcells⟩
      · subst h; simp at hlt
      have c0 := (B.cell (p := ⟨b, off + k * 2 + 0, none⟩) hbn).trans (hcells k _ hx 0 (by omega))
      have c1 := (B.cell (p := ⟨b, off + k * 2 + 1, none⟩) hbn).trans (hcells k _ hx 1 (by omega))
      dsimp only [Exp.cell] at c0 c1
      rw [Nat.add_zero] at c0
      have hC := HC.out
      rw [drop_at hx] at hC
      unfold expOf at hC
      rw [List.find?_cons] at hC
      cases hq : x.name == name
      · rw [hq] at hC
        have HR : Hid (expOf l name = expOf (l.drop (k + 1)) name) := hC
        clear hC HC hcells hx
        rw [← toList_beq2] at hq
        go_wp2
        exact ⟨⟨k + 1, by omega, by go_num, HR.out, B⟩, by simp [intOf]; omega⟩
      · rw [hq] at hC
        have HR : Hid (expOf l name = some x) := hC
        clear hC HC hcells hx
        rw [← toList_beq2] at hq
        go_wp2
        go_ret
        exact ⟨by rw [HR.out]; rfl, B⟩
    · obtain rfl : k = l.length := by omega
      have HZ : Hid (expOf l name = none) := by
        show expOf l name = none
        rw [HC.out, List.drop_length]; rfl
      go_wp2
      go_ret
      exact ⟨by rw [HZ.out]; rfl, B⟩

set_option maxHeartbeats 1000000 in
theorem placeOf_any (l : List PV) (v : Value) (name : ByteArray) (w : World) (hrow : RowOf 8 PV.cell w.heap.size w v l) :
    Calls Tryz.prog 12 #[v, .string name] w fun e w' => e = .returned (.int .i64 (idxFrom (fun x : PV => x.mod.name == name) 0 l)) ∧ Below w.heap.size w w' := by
  obtain ⟨a, cap, rfl, _, hrow⟩ := hrow
  have HST : Hid (∀ k x r, idxFrom (fun x : PV => x.mod.name == name) k (x :: r) = if (x.mod.name == name) = true then (k : Int) else idxFrom (fun x : PV => x.mod.name == name) (k + 1) r) := fun _ _ _ => rfl
  have HNL : Hid (∀ k, idxFrom (fun x : PV => x.mod.name == name) k [] = -1) := fun _ => rfl
  generalize idxFrom (fun x : PV => x.mod.name == name) = IX at *
  go_enter Tryz.func12, Tryz.ntmps12
  go_wp2_with fail
  go_loopw [5] (fun i wr => ∃ (k : Nat), k ≤ l.length ∧ i = .int .i64 k ∧ Hid (IX 0 l = IX k (l.drop k)) ∧ Below w.heap.size w wr) (fun i _ => l.length - (intOf i).toNat)
  case atStart => exact ⟨0, Nat.zero_le _, rfl, by show IX 0 l = IX 0 (l.drop 0); rfl, Below.refl _ _⟩
  case round =>
    obtain ⟨k, hk, rfl, HC, B⟩ := hrel
    by_cases hlt : k < l.length
    · obtain ⟨x, hx⟩ : ∃ x, l[k]? = some x := ⟨_, List.getElem?_eq_getElem hlt⟩
      rcases hrow with h | ⟨b, off, rfl, hbn, hcells⟩
      · subst h; simp at hlt
      have c0 := (B.cell (p := ⟨b, off + k * 8 + 0, none⟩) hbn).trans (hcells k _ hx 0 (by omega))
      dsimp only [PV.cell] at c0
      rw [Nat.add_zero] at c0
      have hC := HC.out
      rw [drop_at hx, HST.out] at hC
      cases hq : x.mod.name == name
      · rw [hq, if_neg (by decide)] at hC
        have HR : Hid (IX 0 l = IX (k + 1) (l.drop (k + 1))) := hC
        clear hC HC hcells hx
        rw [← toList_beq2] at hq
        go_wp2
        exact ⟨⟨k + 1, by omega, by go_num, HR.out, B⟩, by simp [intOf]; omega⟩
      · rw [hq, if_pos rfl] at hC
        have HR : Hid (IX 0 l = k) := hC
        clear hC HC hcells hx
        rw [← toList_beq2] at hq
        go_wp2
        go_ret
        exact ⟨by rw [HR.out]; rfl, B⟩
    · obtain rfl : k = l.length := by omega
      have HZ : Hid (IX 0 l = -1) := by
        show IX 0 l = -1
        rw [HC.out, List.drop_length, HNL.out]
      go_wp2
      go_ret
      exact ⟨by rw [HZ.out]; rfl, B⟩

end Go.Proofs.YtppmihnbpmkbnadGreat

/- The contract of the document's AddressOf. -/
namespace Go.Proofs.YtppmihnbpmkbnadGreat
open Go.RowKit Go.PlainAid

set_option maxRecDepth 100000

/-- An address, when what is meant is known. -/
theorem addrOf_tgt {K : Ker} {l : List Plc} {i : Imp} {t : Tgt} (h : tgtOf K l i.mod = some t) : (t.major ≠ i.major ∧ addrOf K l i = (0, 4)) ∨ (t.major = i.major ∧ t.minor < i.minor ∧ addrOf K l i = (0, 4)) ∨
    (t.major = i.major ∧ i.minor ≤ t.minor ∧ (expOf t.exps i.name = none ∧ addrOf K l i = (0, 5) ∨ ∃ x, expOf t.exps i.name = some x ∧ addrOf K l i = (t.beg + x.pos, 0))) := by
  rcases addrOf_cases K l i with ⟨h1, _⟩ | ⟨t', h1, h2⟩
  · rw [h] at h1; cases h1
  · rw [h] at h1
    rw [← Option.some.inj h1] at h2
    exact h2

set_option maxHeartbeats 4000000 in
theorem addressOf_any (K : Ker) (vk : Value) (l : List PV) (v : Value) (i : Imp) (w : World) (hK : IsKer w.heap.size w vk K) (hrow : IsPlcs w.heap.size w v l) (h0 : chkFind K (l.map PV.plc) = 0) :
    Calls Tryz.prog 85 #[vk, v, .agg #[.string i.mod, .string i.name, .int .i64 i.major, .int .i64 i.minor]] w fun e w' => e = .returned (.tuple #[.int .i64 (addrOf K (l.map PV.plc) i).1, .int .i64 (addrOf K (l.map PV.plc) i).2]) ∧ Below w.heap.size w w' := by
  have HX : Hid (∀ (es : List Exp) (ve : Value) W, Below w.heap.size w W → RowOf 2 Exp.cell w.heap.size w ve es → Calls Tryz.prog 133 #[ve, .string i.name] W fun e w' => e = .returned (.int .i64 (posOf (expOf es i.name))) ∧ Below W.heap.size W w') :=
    fun es ve W hb hr => exportAt_any es ve i.name W ((hr.below hb).more hb.size)
  have HP : Hid (∀ W, Below w.heap.size w W → Calls Tryz.prog 12 #[v, .string i.mod] W fun e w' => e = .returned (.int .i64 (idxFrom (fun x : PV => x.mod.name == i.mod) 0 l)) ∧ Below W.heap.size W w') :=
    fun W hb => placeOf_any l v i.mod W ((hrow.1.below hb).more hb.size)
  obtain ⟨vke, rfl, hE⟩ := hK
  have hE0 := hE
  obtain ⟨pe, ke, rfl, _, _⟩ := hE
  have hat := hrow.2
  obtain ⟨⟨a, cap, rfl, _, hrow⟩, _⟩ := hrow
  have hbd := fun t (ht : tgtOf K (l.map PV.plc) i.mod = some t) => tgt_bd h0 ht
  have hfst : ∀ x ∈ l, 0 ≤ x.first ∧ x.first ≤ 15 := fun x hx => by
    have := (chkFind_zero h0).2.2 x.plc (List.mem_map_of_mem hx)
    exact ⟨this.2.1, this.2.2⟩
  have hcase := tgt_cases K l i.mod
  have hidx := idx_find (fun x : PV => x.mod.name == i.mod) l 0
  have hnone : tgtOf K (l.map PV.plc) i.mod = none → addrOf K (l.map PV.plc) i = (0, 5) := fun h => by unfold addrOf; rw [h]
  have hsome := fun t (ht : tgtOf K (l.map PV.plc) i.mod = some t) => addrOf_tgt ht
  generalize addrOf K (l.map PV.plc) i = R at *
  generalize tgtOf K (l.map PV.plc) i.mod = TT at *
  generalize idxFrom (fun x : PV => x.mod.name == i.mod) 0 l = IX at *
  generalize hfd : l.find? (fun x : PV => x.mod.name == i.mod) = FD at *
  obtain ⟨ma, mi, es⟩ := K
  obtain ⟨im, inm, ia, ib⟩ := i
  dsimp only at *
  clear h0
  have HW2 : Hid (Below w.heap.size w ((w.alloc (.cells #[.int .i64 ma, .int .i64 mi, .slice pe es.length ke] 24)).alloc (.cells #[.string im, .string inm, .int .i64 ia, .int .i64 ib] 84))) := ((Below.refl _ _).alloc (Nat.le_refl _) _).alloc (by simp) _
  have HC2 : Hid (CellsAt ((w.alloc (.cells #[.int .i64 ma, .int .i64 mi, .slice pe es.length ke] 24)).alloc (.cells #[.string im, .string inm, .int .i64 ia, .int .i64 ib] 84)) (w.heap.size + 1) 84 #[.string im, .string inm, .int .i64 ia, .int .i64 ib]) := by
    have := CellsAt.new (w.alloc (.cells #[.int .i64 ma, .int .i64 mi, .slice pe es.length ke] 24)) 84 #[.string im, .string inm, .int .i64 ia, .int .i64 ib]
    rw [World.size_alloc] at this
    exact this
  rcases hcase with ⟨g1, rfl⟩ | ⟨g1, ⟨rfl, rfl⟩ | ⟨x, rfl, rfl⟩⟩
  · rw [← kern_form] at g1
    have HXE := fun W hb => HX.out es _ W hb hE0
    obtain ⟨q1, q2, q3, q4⟩ := hbd _ rfl
    have HXF : Hid (∀ W, Below w.heap.size w W → Calls Tryz.prog 133 #[.slice pe es.length ke, .string inm] W fun e w' => e = .returned (.int .i64 (posOf (expOf es inm))) ∧ Below W.heap.size W w') := HXE
    have key := hsome _ rfl
    dsimp only at key q1 q2 q3 q4
    rcases key with ⟨h1, rfl⟩ | ⟨rfl, h2, rfl⟩ | ⟨rfl, h2, ⟨h3, rfl⟩ | ⟨x, h3, rfl⟩⟩
    · have h1' : (ma != ia) = true := by simpa using h1
      clear HX HP HXE HXF hbd hsome hidx hnone
      go_enter Tryz.func85, Tryz.ntmps85
      go_wp2
      go_ret2
      exact ⟨rfl, HW2.out⟩
    · clear HX HP HXE HXF hbd hsome hidx hnone
      go_enter Tryz.func85, Tryz.ntmps85
      go_wp2
      go_ret2
      exact ⟨rfl, HW2.out⟩
    · rw [h3] at HXF
      dsimp only [posOf] at HXF
      clear HX HP HXE hbd hsome hidx hnone
      go_enter Tryz.func85, Tryz.ntmps85
      go_wp2_with fail
      refine (HXF.out _ HW2.out).mono ?_
      rintro _ w3 ⟨rfl, b3⟩
      go_wp2
      go_ret2
      exact ⟨rfl, HW2.out.trans (b3.mono HW2.out.size)⟩
    · rw [h3] at HXF
      dsimp only [posOf] at HXF
      obtain ⟨m1, m2, m3⟩ := q4 x (List.mem_of_find?_eq_some h3)
      clear HX HP HXE hbd hsome hidx hnone q4 h3
      go_enter Tryz.func85, Tryz.ntmps85
      go_wp2_with fail
      refine (HXF.out _ HW2.out).mono ?_
      rintro _ w3 ⟨rfl, b3⟩
      go_wp2
      go_ret2
      exact ⟨by rw [show 0 + x.pos = x.pos from by omega]; rfl, HW2.out.trans (b3.mono HW2.out.size)⟩
  · rw [← kern_form] at g1
    have hR := hnone rfl
    subst hR
    have hIX : IX = -1 := by
      rcases hidx with ⟨_, h⟩ | ⟨j, x, h, _⟩
      · exact h
      · cases h
    subst hIX
    clear HX hbd hsome hidx hnone
    go_enter Tryz.func85, Tryz.ntmps85
    go_wp2_with fail
    refine (HP.out _ HW2.out).mono ?_
    rintro _ w3 ⟨rfl, b3⟩
    go_wp2
    go_ret2
    exact ⟨rfl, HW2.out.trans (b3.mono HW2.out.size)⟩
  · rw [← kern_form] at g1
    obtain ⟨j, hj, hIX⟩ : ∃ j : Nat, l[j]? = some x ∧ IX = j := by
      rcases hidx with ⟨h, _⟩ | ⟨j, x', h, h2, h3⟩
      · cases h
      · rw [← Option.some.inj h] at h2
        exact ⟨j, h2, by simpa using h3⟩
    subst hIX
    obtain ⟨q1, q2, q3, q4⟩ := hbd _ rfl
    have hx := List.mem_of_getElem? hj
    obtain ⟨f1, f2⟩ := hfst x hx
    have hlt : j < l.length := (List.getElem?_eq_some_iff.1 hj).1
    rcases hrow with h | ⟨b, off, rfl, hbn, hcells⟩
    · subst h; simp at hlt
    have hXR := (hat x hx).1
    obtain ⟨⟨qe, je, e4, _⟩, ⟨qi, ji, e5, _⟩, ⟨qp, jp, e6, _⟩⟩ := hat x hx
    obtain ⟨⟨N, xa, xi, T, xs, is, ps⟩, ve, vi, vp, fi⟩ := x
    dsimp only at *
    subst e4 e5 e6
    have HXF : Hid (∀ W, Below w.heap.size w W → Calls Tryz.prog 133 #[.slice qe xs.length je, .string inm] W fun e w' => e = .returned (.int .i64 (posOf (expOf xs inm))) ∧ Below W.heap.size W w') := fun W hb => HX.out xs _ W hb hXR
    have c0 := hcells j _ hj 0 (by omega)
    have c1 := hcells j _ hj 1 (by omega)
    have c2 := hcells j _ hj 2 (by omega)
    have c3 := hcells j _ hj 3 (by omega)
    have c4 := hcells j _ hj 4 (by omega)
    have c5 := hcells j _ hj 5 (by omega)
    have c6 := hcells j _ hj 6 (by omega)
    have c7 := hcells j _ hj 7 (by omega)
    dsimp only [PV.cell] at c0 c1 c2 c3 c4 c5 c6 c7
    rw [Nat.add_zero] at c0
    have key := hsome _ rfl
    dsimp only at key
    clear HX hbd hsome hidx hnone hat hXR hx hj hcells hfst hE0 hfd
    generalize is.length = li at *
    generalize ps.length = lp at *
    go_enter Tryz.func85, Tryz.ntmps85
    go_wp2_with fail
    refine (HP.out _ HW2.out).mono ?_
    rintro _ w3 ⟨rfl, b3⟩
    have B3 := HW2.out.trans (b3.mono HW2.out.size)
    have C3 := HC2.out.below b3 (by simp)
    have d0 := (B3.cell (p := ⟨b, off + j * 8, none⟩) hbn).trans c0
    have d1 := (B3.cell (p := ⟨b, off + j * 8 + 1, none⟩) hbn).trans c1
    have d2 := (B3.cell (p := ⟨b, off + j * 8 + 2, none⟩) hbn).trans c2
    have d3 := (B3.cell (p := ⟨b, off + j * 8 + 3, none⟩) hbn).trans c3
    have d4 := (B3.cell (p := ⟨b, off + j * 8 + 4, none⟩) hbn).trans c4
    have d5 := (B3.cell (p := ⟨b, off + j * 8 + 5, none⟩) hbn).trans c5
    have d6 := (B3.cell (p := ⟨b, off + j * 8 + 6, none⟩) hbn).trans c6
    have i1 := C3.cell 1
    have i2 := C3.cell 2
    have i3 := C3.cell 3
    have iz := C3.lt
    simp at i1 i2 i3
    clear b3 HW2 HC2 HP c0 c1 c2 c3 c4 c5 c6
    have HB4 : Hid (Below w.heap.size w (w3.alloc (.cells #[.string N, .int .i64 xa, .int .i64 xi, .string T, .slice qe xs.length je, .slice qi li ji, .slice qp lp jp] 39))) := B3.alloc B3.size _
    rcases key with ⟨h1, rfl⟩ | ⟨rfl, h2, rfl⟩ | ⟨rfl, h2, ⟨h3, rfl⟩ | ⟨x, h3, rfl⟩⟩
    · have h1' : (xa != ia) = true := by simpa using h1
      go_wp2
      go_ret2
      exact ⟨rfl, HB4.out⟩
    · go_wp2
      go_ret2
      exact ⟨rfl, HB4.out⟩
    · rw [h3] at HXF
      dsimp only [posOf] at HXF
      go_wp2_with fail
      refine (HXF.out _ HB4.out).mono ?_
      rintro _ w5 ⟨rfl, b5⟩
      go_wp2
      go_ret2
      exact ⟨rfl, HB4.out.trans (b5.mono HB4.out.size)⟩
    · rw [h3] at HXF
      dsimp only [posOf] at HXF
      obtain ⟨m1, m2, m3⟩ := q4 x (List.mem_of_find?_eq_some h3)
      clear q4 h3
      go_wp2_with fail
      refine (HXF.out _ HB4.out).mono ?_
      rintro _ w5 ⟨rfl, b5⟩
      have B5 := HB4.out.trans (b5.mono HB4.out.size)
      have d7 := (B5.cell (p := ⟨b, off + j * 8 + 7, none⟩) hbn).trans c7
      clear b5 HB4 HXF c7 d0 d1 d2 d3 d4 d5 d6
      go_wp2
      go_ret2
      exact ⟨by rw [show 4096 + fi * 64 + x.pos = 4096 + 64 * fi + x.pos from by omega]; rfl, B5⟩

end Go.Proofs.YtppmihnbpmkbnadGreat
