/- Texts that are laid together. -/
import Derived.Test.YtlpnfbpgnfappaaGreatMrgL
import Derived.Test.YtlpnfbpgnfappaaGreatMrgI
import Derived.Test.YtlpnfbpgnfappaaGreatMrgJ
import Derived.Test.YtlpnfbpgnfappaaGreatMrgK
import Derived.Test.YtlpnfbpgnfappaaGreatMrgA
import Derived.Test.YtlpnfbpgnfappaaGreatMrgF

/- The contracts of package link's linker's image, image and wrong. -/
namespace Go.Proofs.YtlpnfbpgnfappaaGreat
open Go.RowKit Go.PlainAid

set_option maxRecDepth 100000

/-- What a linker answers. -/
def lnRes (ads : List Int) (p : Plc) : ByteArray × Int :=
  if (patd ads (4096 + p.first * 64) p.mod.text p.mod.pats).2 ≠ 0 then (⟨#[]⟩, (patd ads (4096 + p.first * 64) p.mod.text p.mod.pats).2)
  else (fillTo (patd ads (4096 + p.first * 64) p.mod.text p.mod.pats).1 (64 * szM p.mod), 0)
theorem imgRes_ln (K : Ker) (L : List Plc) (p : Plc) : imgRes K L p = if (allRes K L p.mod).2 ≠ 0 then (⟨#[]⟩, (allRes K L p.mod).2) else lnRes (allRes K L p.mod).1 p := rfl

theorem addrsFrom_length {K : Ker} {L : List Plc} : ∀ {is : List Imp} {acc : List Int}, (addrsFrom K L acc is).2 = 0 → (addrsFrom K L acc is).1.length = acc.length + is.length
  | [], acc, _ => rfl
  | i :: r, acc, h => by
    unfold addrsFrom at h ⊢
    by_cases h0 : (addrOf K L i).2 = 0
    · rw [if_neg (by omega)] at h ⊢
      rw [addrsFrom_length h, List.length_append, List.length_cons]
      simp
      omega
    · rw [if_pos h0] at h
      exact absurd h h0
theorem allRes_length {K : Ker} {L : List Plc} {M : Mod} (h : (allRes K L M).2 = 0) : (allRes K L M).1.length = M.imps.length := by
  rcases allRes_cases K L M with ⟨h1, e⟩ | ⟨_, h1, e⟩ | ⟨_, _, e⟩
  · rw [e] at h; exact absurd h h1
  · rw [e] at h; exact absurd h h1
  · rw [e] at h ⊢
    rw [addrsFrom_length h]
    simp

set_option maxHeartbeats 4000000 in
theorem lnImage_any (x : PV) (ads : List Int) (va : Value) (w : World) (hx : PlcAt w.heap.size w x) (hf : x.mod.fits) (hr : RowOf 1 intCell w.heap.size w va ads) (hm0 : chkMod x.mod = 0) (hal : ads.length = x.mod.imps.length) (f0 : 0 ≤ x.first) (f1 : x.first ≤ 15) :
    Calls Tryz.prog 185 #[.agg #[.string x.mod.name, .int .i64 x.mod.major, .int .i64 x.mod.minor, .string x.mod.text, x.ve, x.vi, x.vp, .int .i64 x.first, va]] w fun e w' => e = .returned (.tuple #[.string (lnRes ads x.plc).1, .int .i64 (lnRes ads x.plc).2]) ∧ Below w.heap.size w w' := by
  have HS : Hid (∀ W, Below w.heap.size w W → Calls Tryz.prog 18 #[x.modV] W fun e w' => e = .returned (.tuple #[.int .i64 (szM x.mod : Int), .int .i64 0]) ∧ Below W.heap.size W w') := fun W hb => by
    have := size_any x.mod x.modV W (((hx.below hb).more hb.size).isMod) hf
    rw [if_pos hm0, hm0] at this
    exact this
  have HP : Hid (∀ W, Below w.heap.size w W → Calls Tryz.prog 207 #[.agg #[.string x.mod.name, .int .i64 x.mod.major, .int .i64 x.mod.minor, .string x.mod.text, x.ve, x.vi, x.vp, .int .i64 x.first, va]] W fun e w' => e = .returned (.tuple #[.string (patd ads (4096 + x.first * 64) x.mod.text x.mod.pats).1, .int .i64 (patd ads (4096 + x.first * 64) x.mod.text x.mod.pats).2]) ∧ Below W.heap.size W w') :=
    fun W hb => lnPatched_any x ads va W ((hx.below hb).more hb.size) ((hr.below hb).more hb.size) hm0 hal f0 f1
  have HSZ : Hid ((patd ads (4096 + x.first * 64) x.mod.text x.mod.pats).2 = 0 → (patd ads (4096 + x.first * 64) x.mod.text x.mod.pats).1.size ≤ 64 * szM x.mod) := fun h => by
    rw [patd_size h]; exact szM_le _
  have hk : szM x.mod ≤ 4 := (szM_bd hm0).2.1
  have key : lnRes ads x.plc = if (patd ads (4096 + x.first * 64) x.mod.text x.mod.pats).2 ≠ 0 then (⟨#[]⟩, (patd ads (4096 + x.first * 64) x.mod.text x.mod.pats).2) else (fillTo (patd ads (4096 + x.first * 64) x.mod.text x.mod.pats).1 (64 * szM x.mod), 0) := rfl
  generalize lnRes ads x.plc = R at *
  generalize patd ads (4096 + x.first * 64) x.mod.text x.mod.pats = pd at *
  generalize szM x.mod = n at *
  obtain ⟨⟨pe, ke, e4, _⟩, ⟨pi, ki, e5, _⟩, ⟨pp, kp, e6, _, _⟩⟩ := hx
  obtain ⟨pa, ka, rfl, _, _⟩ := hr
  obtain ⟨⟨N, ma, mi, T, es, is, ps⟩, ve, vi, vp, fi⟩ := x
  dsimp only [PV.modV] at *
  subst e4 e5 e6
  clear hm0 hal hf
  generalize es.length = le at *
  generalize is.length = li at *
  generalize ps.length = lp at *
  generalize ads.length = la at *
  obtain ⟨S, er⟩ := pd
  dsimp only at *
  have B1 : Below w.heap.size w (w.alloc (.cells #[.string N, .int .i64 ma, .int .i64 mi, .string T, .slice pe le ke, .slice pi li ki, .slice pp lp kp, .int .i64 fi, .slice pa la ka] 210)) := (Below.refl _ _).alloc (Nat.le_refl _) _
  have C1 : CellsAt (w.alloc (.cells #[.string N, .int .i64 ma, .int .i64 mi, .string T, .slice pe le ke, .slice pi li ki, .slice pp lp kp, .int .i64 fi, .slice pa la ka] 210)) w.heap.size 210 #[.string N, .int .i64 ma, .int .i64 mi, .string T, .slice pe le ke, .slice pi li ki, .slice pp lp kp, .int .i64 fi, .slice pa la ka] := CellsAt.new _ _ _
  go_enter Tryz.func185, Tryz.ntmps185
  go_wp2_with fail
  refine (HS.out _ B1).mono ?_
  rintro e w2 ⟨rfl, b2⟩
  have B2 := B1.trans (b2.mono B1.size)
  have C2 := C1.below b2 C1.lt
  clear b2 C1 HS B1
  have c0 := C2.cell 0
  have c1 := C2.cell 1
  have c2 := C2.cell 2
  have c3 := C2.cell 3
  have c4 := C2.cell 4
  have c5 := C2.cell 5
  have c6 := C2.cell 6
  have c7 := C2.cell 7
  have c8 := C2.cell 8
  have hlt := C2.lt
  simp at c0 c1 c2 c3 c4 c5 c6 c7 c8
  go_wp2_with fail
  refine (HP.out _ B2).mono ?_
  rintro e w3 ⟨rfl, b3⟩
  have B3 := B2.trans (b3.mono B2.size)
  clear HP c0 c1 c2 c3 c4 c5 c6 c7 c8 hlt C2
  by_cases hq : er = 0
  · subst hq
    have HF : Hid (∀ W, Calls Tryz.prog 166 #[.string S, .int .i64 n] W fun e w' => e = .returned (.string (fillTo S (64 * n))) ∧ Below W.heap.size W w') := fun W => filled_any S n W (by omega) (HSZ.out rfl)
    have HR : Hid (R = (fillTo S (64 * n), 0)) := by
      show R = _
      rw [key]; rfl
    clear key HSZ
    generalize fillTo S (64 * n) = F at *
    go_wp2_with fail
    refine (HF.out _).mono ?_
    rintro e w4 ⟨rfl, b4⟩
    have B4 := B3.trans (b4.mono B3.size)
    go_wp2
    go_ret2
    exact ⟨by rw [HR.out]; rfl, B4⟩
  · have HR : Hid (R = (⟨#[]⟩, er)) := by
      show R = _
      rw [key, if_pos hq]
    have hq' : (er != 0) = true := by simpa using hq
    clear key HSZ hq
    go_wp2
    go_ret2
    exact ⟨by rw [HR.out]; rfl, B3⟩

set_option maxHeartbeats 4000000 in
theorem lnOne_any (K : Ker) (vk : Value) (l : List PV) (v : Value) (x : PV) (w : World) (hK : IsKer w.heap.size w vk K) (hf : K.fits) (hrow : IsPlcs w.heap.size w v l) (hfit : ∀ x ∈ l, x.mod.fits) (hx : PlcAt w.heap.size w x) (hxf : x.mod.fits) (hm0 : chkMod x.mod = 0) (f0 : 0 ≤ x.first) (f1 : x.first ≤ 15) :
    Calls Tryz.prog 165 #[vk, v, x.val] w fun e w' => e = .returned (.tuple #[.string (imgRes K (l.map PV.plc) x.plc).1, .int .i64 (imgRes K (l.map PV.plc) x.plc).2]) ∧ Below w.heap.size w w' := by
  have HA : Hid (∀ W, Below w.heap.size w W → Calls Tryz.prog 32 #[vk, v, x.modV] W fun e w' => (∃ r, e = .returned (.tuple #[r, .int .i64 (allRes K (l.map PV.plc) x.mod).2]) ∧ RowOf 1 intCell w'.heap.size w' r (allRes K (l.map PV.plc) x.mod).1) ∧ Below W.heap.size W w') :=
    fun W hb => all_any K vk l v x.mod x.modV W ((hK.below hb).more hb.size) hf ((hrow.below hb).more hb.size) hfit (((hx.below hb).more hb.size).isMod) hxf
  have HI : Hid (∀ ads va W, Below w.heap.size w W → RowOf 1 intCell W.heap.size W va ads → ads.length = x.mod.imps.length → Calls Tryz.prog 185 #[.agg #[.string x.mod.name, .int .i64 x.mod.major, .int .i64 x.mod.minor, .string x.mod.text, x.ve, x.vi, x.vp, .int .i64 x.first, va]] W fun e w' => e = .returned (.tuple #[.string (lnRes ads x.plc).1, .int .i64 (lnRes ads x.plc).2]) ∧ Below W.heap.size W w') :=
    fun ads va W hb hr hal => lnImage_any x ads va W ((hx.below hb).more hb.size) hxf hr hm0 hal f0 f1
  have key := imgRes_ln K (l.map PV.plc) x.plc
  have HL : Hid ((allRes K (l.map PV.plc) x.mod).2 = 0 → (allRes K (l.map PV.plc) x.mod).1.length = x.mod.imps.length) := fun h => allRes_length h
  change _ = if (allRes K (l.map PV.plc) x.mod).2 ≠ 0 then (⟨#[]⟩, (allRes K (l.map PV.plc) x.mod).2) else lnRes (allRes K (l.map PV.plc) x.mod).1 x.plc at key
  generalize imgRes K (l.map PV.plc) x.plc = R at *
  generalize allRes K (l.map PV.plc) x.mod = ar at *
  obtain ⟨vke, rfl, hE⟩ := hK
  obtain ⟨qe, je, rfl, _, _⟩ := hE
  obtain ⟨⟨a, cap, rfl, _, _⟩, _⟩ := hrow
  have HN : Hid (∀ ads, lnRes ads x.plc = lnRes ads x.plc) := fun _ => rfl
  generalize (fun ads => lnRes ads x.plc) = LR at *
  obtain ⟨⟨pe, ke, e4, _⟩, ⟨pi, ki, e5, _⟩, ⟨pp, kp, e6, _, _⟩⟩ := hx
  obtain ⟨⟨N, xa, xi, T, es, is, ps⟩, ve, vi, vp, fi⟩ := x
  obtain ⟨ma, mi, ks⟩ := K
  dsimp only [PV.modV, PV.val] at *
  subst e4 e5 e6
  clear hm0 hf hxf hfit HN
  generalize es.length = le at *
  generalize is.length = li at *
  generalize ps.length = lp at *
  generalize ks.length = lk at *
  generalize l.length = ll at *
  obtain ⟨ads, er⟩ := ar
  dsimp only at *
  have B1 : Below w.heap.size w ((w.alloc (.cells #[.int .i64 ma, .int .i64 mi, .slice qe lk je] 24)).alloc (.cells #[.string N, .int .i64 xa, .int .i64 xi, .string T, .slice pe le ke, .slice pi li ki, .slice pp lp kp, .int .i64 fi] 57)) := ((Below.refl _ _).alloc (Nat.le_refl _) _).alloc (by simp) _
  have C1 : CellsAt ((w.alloc (.cells #[.int .i64 ma, .int .i64 mi, .slice qe lk je] 24)).alloc (.cells #[.string N, .int .i64 xa, .int .i64 xi, .string T, .slice pe le ke, .slice pi li ki, .slice pp lp kp, .int .i64 fi] 57)) (w.heap.size + 1) 57 #[.string N, .int .i64 xa, .int .i64 xi, .string T, .slice pe le ke, .slice pi li ki, .slice pp lp kp, .int .i64 fi] := by
    have := CellsAt.new (w.alloc (.cells #[.int .i64 ma, .int .i64 mi, .slice qe lk je] 24)) 57 #[.string N, .int .i64 xa, .int .i64 xi, .string T, .slice pe le ke, .slice pi li ki, .slice pp lp kp, .int .i64 fi]
    rw [World.size_alloc] at this
    exact this
  go_enter Tryz.func165, Tryz.ntmps165
  go_wp2_with fail
  refine (HA.out _ B1).mono ?_
  rintro e w2 ⟨⟨r, rfl, hr⟩, b2⟩
  have B2 := B1.trans (b2.mono B1.size)
  have C2 := C1.below b2 C1.lt
  clear b2 C1 HA B1
  by_cases hq : er = 0
  · subst hq
    have hal := HL.out rfl
    have HR : Hid (R = lnRes ads ⟨⟨N, xa, xi, T, es, is, ps⟩, fi⟩) := by
      show R = _
      rw [key]; rfl
    clear key HL
    have c0 := C2.cell 0
    have c1 := C2.cell 1
    have c2 := C2.cell 2
    have c3 := C2.cell 3
    have c4 := C2.cell 4
    have c5 := C2.cell 5
    have c6 := C2.cell 6
    have c7 := C2.cell 7
    have hlt := C2.lt
    simp at c0 c1 c2 c3 c4 c5 c6 c7
    have HI' : Hid (∀ W, Below w2.heap.size w2 W → Calls Tryz.prog 185 #[.agg #[.string N, .int .i64 xa, .int .i64 xi, .string T, .slice pe le ke, .slice pi li ki, .slice pp lp kp, .int .i64 fi, r]] W fun e w' => e = .returned (.tuple #[.string R.1, .int .i64 R.2]) ∧ Below W.heap.size W w') := fun W hb => by
      rw [HR.out]
      exact HI.out ads r W (B2.trans (hb.mono B2.size)) ((hr.below hb).more hb.size) hal
    obtain ⟨ra, rk, rfl, _, _⟩ := hr
    clear HI HR hal
    obtain ⟨R1, R2⟩ := R
    dsimp only at *
    go_wp2_with fail
    refine (HI'.out _ (Below.refl _ _)).mono ?_
    rintro e w3 ⟨rfl, b3⟩
    have B3 := B2.trans (b3.mono B2.size)
    go_wp2
    go_ret2
    exact ⟨rfl, B3⟩
  · have HR : Hid (R = (⟨#[]⟩, er)) := by
      show R = _
      rw [key, if_pos hq]
    have hq' : (er != 0) = true := by simpa using hq
    clear key HL hq HI
    obtain ⟨ra, rk, rfl, _, _⟩ := hr
    go_wp2
    go_ret2
    exact ⟨by rw [HR.out]; rfl, B2⟩

set_option maxHeartbeats 4000000 in
theorem lnWrong_any (K : Ker) (vk : Value) (l : List PV) (v : Value) (w : World) (hK : IsKer w.heap.size w vk K) (hf : K.fits) (hrow : IsPlcs w.heap.size w v l) (hfit : ∀ x ∈ l, x.mod.fits) :
    Calls Tryz.prog 164 #[vk, v] w fun e w' => e = .returned (.int .i64 (chkLink K (l.map PV.plc))) ∧ Below w.heap.size w w' := by
  have HC : Hid (∀ W, Below w.heap.size w W → Calls Tryz.prog 72 #[vk] W fun e w' => e = .returned (.int .i64 (chkKer K)) ∧ Below W.heap.size W w') := fun W hb => kernel_any K vk W ((hK.below hb).more hb.size) hf
  have HF : Hid (∀ W, Below w.heap.size w W → Calls Tryz.prog 19 #[v] W fun e w' => (∃ r, e = .returned (.tuple #[r, .int .i64 (chkReg (l.map PV.plc))]) ∧ RowOf 2 runCell w'.heap.size w' r (freeRes (l.map PV.plc))) ∧ Below W.heap.size W w') := fun W hb => free_any l v W ((hrow.below hb).more hb.size) hfit
  have HO : Hid (∀ W, Below w.heap.size w W → Calls Tryz.prog 33 #[v] W fun e w' => (∃ r, e = .returned (.tuple #[r, .int .i64 (ordOf (l.map PV.plc)).2]) ∧ RowOf 1 strCell w'.heap.size w' r (ordOf (l.map PV.plc)).1 ∧ CapOk r) ∧ Below W.heap.size W w') := fun W hb => order_any l v W ((hrow.below hb).more hb.size) hfit
  have key := chkLink_cases K (l.map PV.plc)
  have hoe : chkReg (l.map PV.plc) = 0 → _ := fun h => lnOrd_err h
  generalize chkLink K (l.map PV.plc) = cl at *
  obtain ⟨vke, rfl, hE⟩ := hK
  obtain ⟨qe, je, rfl, _, _⟩ := hE
  obtain ⟨⟨a, cap, rfl, _, _⟩, _⟩ := hrow
  generalize chkKer K = ck at *
  generalize l.map PV.plc = L at *
  generalize chkReg L = cr at *
  generalize freeRes L = fr at *
  generalize ordOf L = od at *
  generalize chkGraph L = cg at *
  generalize twiceFrom [] L = tw at *
  obtain ⟨oa, oe⟩ := od
  obtain ⟨ma, mi, ks⟩ := K
  dsimp only at *
  clear hf hfit
  generalize ks.length = lk at *
  generalize l.length = ll at *
  have B1 : Below w.heap.size w (w.alloc (.cells #[.int .i64 ma, .int .i64 mi, .slice qe lk je] 24)) := (Below.refl _ _).alloc (Nat.le_refl _) _
  go_enter Tryz.func164, Tryz.ntmps164
  go_wp2_with fail
  refine (HC.out _ B1).mono ?_
  rintro e w2 ⟨rfl, b2⟩
  have B2 := B1.trans (b2.mono B1.size)
  clear b2 HC B1
  rcases key with ⟨h1, rfl⟩ | ⟨rfl, h2, rfl⟩ | ⟨rfl, rfl, rfl, rfl⟩ | ⟨rfl, rfl, rfl, rfl⟩
  · have h1' : (cl != 0) = true := by simpa using h1
    clear h1
    go_wp2
    go_ret
    exact ⟨rfl, B2⟩
  all_goals
    go_wp2_with fail
    refine (HF.out _ B2).mono ?_
    rintro e w3 ⟨⟨r, rfl, ra, rc, rfl, _, _⟩, b3⟩
    have B3 := B2.trans (b3.mono B2.size)
    clear b3 HF B2
  · have h2' : (cl != 0) = true := by simpa using h2
    clear h2
    go_wp2
    go_ret
    exact ⟨rfl, B3⟩
  · obtain rfl : oe = 6 := by
      rcases hoe trivial with ⟨_, h⟩ | ⟨h, _⟩
      · exact h
      · exact absurd h (by decide)
    clear hoe
    go_wp2_with fail
    refine (HO.out _ B3).mono ?_
    rintro e w4 ⟨⟨s, rfl, ⟨sa, sc, rfl, _, _⟩, _⟩, b4⟩
    have B4 := B3.trans (b4.mono B3.size)
    go_wp2
    go_ret
    exact ⟨rfl, B4⟩
  · have h6 : (oe == 6) = false := by
      rcases hoe trivial with ⟨h, _⟩ | ⟨_, _, h | h⟩
      · exact absurd h (by decide)
      · rw [h]; rfl
      · rw [h]; rfl
    clear hoe
    go_wp2_with fail
    refine (HO.out _ B3).mono ?_
    rintro e w4 ⟨⟨s, rfl, ⟨sa, sc, rfl, _, _⟩, _⟩, b4⟩
    have B4 := B3.trans (b4.mono B3.size)
    go_wp2
    go_ret
    exact ⟨rfl, B4⟩

end Go.Proofs.YtlpnfbpgnfappaaGreat

/- The contracts of link.Image and link.Area. -/
namespace Go.Proofs.YtlpnfbpgnfappaaGreat
open Go.RowKit Go.PlainAid

set_option maxRecDepth 100000

theorem find_plc (name : ByteArray) (l : List PV) : (l.map PV.plc).find? (fun p => p.mod.name == name) = (l.find? fun x : PV => x.mod.name == name).map PV.plc := by
  rw [List.find?_map]; rfl

/-- Image, case by case. -/
theorem imageOf_cases (K : Ker) (l : List PV) (name : ByteArray) :
    (chkLink K (l.map PV.plc) ≠ 0 ∧ imageOf K (l.map PV.plc) name = (⟨#[]⟩, chkLink K (l.map PV.plc))) ∨
    (chkLink K (l.map PV.plc) = 0 ∧ ixFrom (fun x : PV => x.mod.name == name) 0 l = -1 ∧ imageOf K (l.map PV.plc) name = (⟨#[]⟩, 5)) ∨
    (chkLink K (l.map PV.plc) = 0 ∧ ∃ (j : Nat) (x : PV), l[j]? = some x ∧ ixFrom (fun x : PV => x.mod.name == name) 0 l = (j : Int) ∧ imageOf K (l.map PV.plc) name = imgRes K (l.map PV.plc) x.plc) := by
  by_cases h : chkLink K (l.map PV.plc) = 0
  · rcases ix_find (fun x : PV => x.mod.name == name) l 0 with ⟨h1, h2⟩ | ⟨j, x, h1, h2, h3⟩
    · refine .inr (.inl ⟨h, h2, ?_⟩)
      unfold imageOf
      rw [if_neg (by omega), find_plc, h1]
      rfl
    · refine .inr (.inr ⟨h, j, x, h2, by simpa using h3, ?_⟩)
      unfold imageOf
      rw [if_neg (by omega), find_plc, h1]
      rfl
  · refine .inl ⟨h, ?_⟩
    unfold imageOf
    rw [if_pos h]

theorem link_at {K : Ker} {l : List PV} (h : chkLink K (l.map PV.plc) = 0) {x : PV} (hx : x ∈ l) : chkMod x.mod = 0 ∧ 0 ≤ x.first ∧ x.first + szM x.mod ≤ 16 ∧ 1 ≤ szM x.mod := by
  obtain ⟨_, h2, h3⟩ := chkReg_zero.1 (chkLink_zero h).2.1
  have h4 := okPl_first h3 x.plc (List.mem_map.2 ⟨x, hx, rfl⟩)
  exact ⟨h2 x.plc (List.mem_map.2 ⟨x, hx, rfl⟩), h4.1, h4.2.2, h4.2.1⟩

/-- What Area has while it goes on. -/
theorem area_step {K : Ker} {L : List Plc} {s : ByteArray} {p : Plc} {r : List Plc} : areaFrom K L s (p :: r) = if (imgRes K L p).2 ≠ 0 then (⟨#[]⟩, (imgRes K L p).2) else areaFrom K L (fillTo s (64 * p.first.toNat) ++ (imgRes K L p).1) r := rfl
set_option maxHeartbeats 4000000 in
theorem linkArea_any (K : Ker) (vk : Value) (l : List PV) (v : Value) (w : World) (hK : IsKer w.heap.size w vk K) (hf : K.fits) (hrow : IsPlcs w.heap.size w v l) (hfit : ∀ x ∈ l, x.mod.fits) :
    Calls Tryz.prog 123 #[vk, v] w fun e w' => e = .returned (.tuple #[.string (areaOf K (l.map PV.plc)).1, .int .i64 (areaOf K (l.map PV.plc)).2]) ∧ Below w.heap.size w w' := by
  have HW : Hid (∀ W, Below w.heap.size w W → Calls Tryz.prog 164 #[vk, v] W fun e w' => e = .returned (.int .i64 (chkLink K (l.map PV.plc))) ∧ Below W.heap.size W w') := fun W hb => lnWrong_any K vk l v W ((hK.below hb).more hb.size) hf ((hrow.below hb).more hb.size) hfit
  have HM : Hid (chkLink K (l.map PV.plc) = 0 → ∀ x ∈ l, ∀ W, Below w.heap.size w W → Calls Tryz.prog 165 #[vk, v, x.val] W fun e w' => e = .returned (.tuple #[.string (imgRes K (l.map PV.plc) x.plc).1, .int .i64 (imgRes K (l.map PV.plc) x.plc).2]) ∧ Below W.heap.size W w') := fun h0 x hx W hb =>
    lnOne_any K vk l v x W ((hK.below hb).more hb.size) hf ((hrow.below hb).more hb.size) hfit (((hrow.2 x hx).below hb).more hb.size) (hfit x hx) (link_at h0 hx).1 (link_at h0 hx).2.1 (by have := link_at h0 hx; omega)
  have HOK : Hid (chkLink K (l.map PV.plc) = 0 → okPl 0 (l.map PV.plc) ∧ l.length ≤ 8) := fun h => by
    have := chkReg_zero.1 (chkLink_zero h).2.1
    exact ⟨this.2.2, by simpa using this.1⟩
  have HIS : Hid (∀ p, (imgRes K (l.map PV.plc) p).2 = 0 → (imgRes K (l.map PV.plc) p).1.size = 64 * szM p.mod) := fun p h => imgRes_size h
  have key : (chkLink K (l.map PV.plc) ≠ 0 ∧ areaOf K (l.map PV.plc) = (⟨#[]⟩, chkLink K (l.map PV.plc))) ∨ (chkLink K (l.map PV.plc) = 0 ∧ areaOf K (l.map PV.plc) = areaFrom K (l.map PV.plc) ⟨#[]⟩ (l.map PV.plc)) := by
    unfold areaOf
    by_cases h : chkLink K (l.map PV.plc) = 0
    · exact .inr ⟨h, by rw [if_neg (by omega)]⟩
    · exact .inl ⟨h, by rw [if_pos h]⟩
  have hat := hrow.2
  obtain ⟨vke, rfl, hE⟩ := hK
  obtain ⟨qe, je, rfl, _, _⟩ := hE
  obtain ⟨⟨a, cap, rfl, hmax, hrow⟩, _⟩ := hrow
  generalize areaOf K (l.map PV.plc) = R at *
  generalize chkLink K (l.map PV.plc) = cl at *
  have HAC : Hid (∀ s p r, areaFrom K (l.map PV.plc) s (p :: r) = if (imgRes K (l.map PV.plc) p).2 ≠ 0 then (⟨#[]⟩, (imgRes K (l.map PV.plc) p).2) else areaFrom K (l.map PV.plc) (fillTo s (64 * p.first.toNat) ++ (imgRes K (l.map PV.plc) p).1) r) := fun _ _ _ => rfl
  have HAN : Hid (∀ s, areaFrom K (l.map PV.plc) s [] = (fillTo s 1024, 0)) := fun _ => rfl
  generalize areaFrom K (l.map PV.plc) = AF at *
  generalize hLL : l.map PV.plc = L at *
  generalize imgRes K L = IR at *
  obtain ⟨ma, mi, ks⟩ := K
  dsimp only at *
  clear hf hfit
  generalize ks.length = lk at *
  have B1 : Below w.heap.size w (w.alloc (.cells #[.int .i64 ma, .int .i64 mi, .slice qe lk je] 24)) := (Below.refl _ _).alloc (Nat.le_refl _) _
  have K1 : CellsAt (w.alloc (.cells #[.int .i64 ma, .int .i64 mi, .slice qe lk je] 24)) w.heap.size 24 #[.int .i64 ma, .int .i64 mi, .slice qe lk je] := CellsAt.new w 24 #[.int .i64 ma, .int .i64 mi, .slice qe lk je]
  go_enter Tryz.func123, Tryz.ntmps123
  go_wp2_with fail
  refine (HW.out _ B1).mono ?_
  rintro e w2 ⟨rfl, b2⟩
  have B2 := B1.trans (b2.mono B1.size)
  have K2 := K1.below b2 K1.lt
  clear b2 K1 B1 HW
  rcases key with ⟨h0, rfl⟩ | ⟨rfl, rfl⟩
  · have h0' : (cl != 0) = true := by simpa using h0
    clear h0 HM
    go_wp2
    go_ret2
    exact ⟨rfl, B2⟩
  · have HMM : Hid (∀ x ∈ l, ∀ W, Below w.heap.size w W → Calls Tryz.prog 165 #[.agg #[.int .i64 ma, .int .i64 mi, .slice qe lk je], .slice a l.length cap, x.val] W fun e w' => e = .returned (.tuple #[.string (IR x.plc).1, .int .i64 (IR x.plc).2]) ∧ Below W.heap.size W w') := HM.out (by first | rfl | trivial)
    obtain ⟨hok, h8⟩ := HOK.out (by first | rfl | trivial)
    have HO2 : Hid (okPl 0 L) := hok
    clear HM HOK hok
    go_wp2_with fail
    go_loopw [7, 20] (fun f i wr => ∃ (k : Nat) (S : ByteArray), k ≤ l.length ∧ i = .int .i64 k ∧ f = .string S ∧ Hid (∃ e : Nat, S.size ≤ 64 * e ∧ okPl e (L.drop k)) ∧ Hid (AF ⟨#[]⟩ L = AF S (L.drop k)) ∧ Below w2.heap.size w2 wr) (fun _ i _ => l.length - (intOf i).toNat)
    case atStart => exact ⟨0, ⟨#[]⟩, Nat.zero_le _, rfl, rfl, (⟨0, Nat.le_refl _, HO2.out⟩ : ∃ e : Nat, (⟨#[]⟩ : ByteArray).size ≤ 64 * e ∧ okPl e (L.drop 0)), (by show AF ⟨#[]⟩ L = AF ⟨#[]⟩ (L.drop 0); rfl), Below.refl _ _⟩
    case round =>
      obtain ⟨k, S, hk, rfl, rfl, HSZ, HCC, B⟩ := hrel
      have B' : Below w.heap.size w wr := B2.trans (B.mono B2.size)
      by_cases hlt : k < l.length
      · obtain ⟨x, hx⟩ : ∃ x, l[k]? = some x := ⟨_, List.getElem?_eq_getElem hlt⟩
        have hLx : L[k]? = some x.plc := by rw [← hLL, List.getElem?_map, hx]; rfl
        rcases hrow with h | ⟨b, off, rfl, hbn, hcells⟩
        · subst h; simp at hlt
        have HR : Hid (AF ⟨#[]⟩ L = if (IR x.plc).2 ≠ 0 then (⟨#[]⟩, (IR x.plc).2) else AF (fillTo S (64 * x.first.toNat) ++ (IR x.plc).1) (L.drop (k + 1))) := by
          show AF ⟨#[]⟩ L = _
          rw [HCC.out, drop_at hLx, HAC.out]
          rfl
        obtain ⟨e, he, hpl⟩ := HSZ.out
        rw [drop_at hLx] at hpl
        obtain ⟨p1, p2, p3, p4⟩ := hpl
        change (e : Int) ≤ x.first at p1
        change 1 ≤ szM x.mod at p2
        change x.first + (szM x.mod : Int) ≤ 16 at p3
        change okPl (x.first + (szM x.mod : Int)) (L.drop (k + 1)) at p4
        have HIX : Hid ((IR x.plc).2 = 0 → (IR x.plc).1.size = 64 * szM x.mod) := HIS.out x.plc
        obtain ⟨n, hn⟩ : ∃ n : Nat, x.first = n := ⟨x.first.toNat, by omega⟩
        have HX := HMM.out x (List.mem_of_getElem? hx)
        obtain ⟨R, HRR⟩ : ∃ R, Hid (IR x.plc = R) := ⟨IR x.plc, (rfl : IR x.plc = IR x.plc)⟩
        rw [HRR.out] at HX HR HIX
        have c0 := (B'.cell (p := ⟨b, off + k * 8 + 0, none⟩) hbn).trans (hcells k _ hx 0 (by omega))
        have c1 := (B'.cell (p := ⟨b, off + k * 8 + 1, none⟩) hbn).trans (hcells k _ hx 1 (by omega))
        have c2 := (B'.cell (p := ⟨b, off + k * 8 + 2, none⟩) hbn).trans (hcells k _ hx 2 (by omega))
        have c3 := (B'.cell (p := ⟨b, off + k * 8 + 3, none⟩) hbn).trans (hcells k _ hx 3 (by omega))
        have c4 := (B'.cell (p := ⟨b, off + k * 8 + 4, none⟩) hbn).trans (hcells k _ hx 4 (by omega))
        have c5 := (B'.cell (p := ⟨b, off + k * 8 + 5, none⟩) hbn).trans (hcells k _ hx 5 (by omega))
        have c6 := (B'.cell (p := ⟨b, off + k * 8 + 6, none⟩) hbn).trans (hcells k _ hx 6 (by omega))
        have c7 := (B'.cell (p := ⟨b, off + k * 8 + 7, none⟩) hbn).trans (hcells k _ hx 7 (by omega))
        obtain ⟨⟨pe, ke, e4, _⟩, ⟨pi, ki, e5, _⟩, ⟨pp, kp, e6, _⟩⟩ := hat x (List.mem_of_getElem? hx)
        generalize szM x.mod = zz at *
        obtain ⟨⟨N, xa, xi, T, es, is, ps⟩, ve, vi, vp, fi⟩ := x
        dsimp only [PV.val] at *
        subst e4 e5 e6 hn
        dsimp only [PV.cell] at c0 c1 c2 c3 c4 c5 c6 c7
        rw [Nat.add_zero] at c0
        rw [Int.toNat_natCast] at HR
        have HF : Hid (∀ W, Calls Tryz.prog 166 #[.string S, .int .i64 n] W fun e w' => e = .returned (.string (fillTo S (64 * n))) ∧ Below W.heap.size W w') := fun W => filled_any S n W (by omega) (by omega)
        have hfs : Hid ((fillTo S (64 * n)).size = 64 * n) := show (fillTo S (64 * n)).size = 64 * n from fillTo_size (by omega)
        generalize fillTo S (64 * n) = F at *
        generalize es.length = le at *
        generalize is.length = li at *
        generalize ps.length = lp at *
        have K3 := K2.below B K2.lt
        have d0 := K3.cell 0
        have d1 := K3.cell 1
        have d2 := K3.cell 2
        have hk3 := K3.lt
        simp at d0 d1 d2
        have HXX : Hid (∀ W, Below w.heap.size w W → Calls Tryz.prog 165 #[.agg #[.int .i64 ma, .int .i64 mi, .slice qe lk je], .slice (some ⟨b, off, none⟩) l.length cap, .agg #[.string N, .int .i64 xa, .int .i64 xi, .string T, .slice pe le ke, .slice pi li ki, .slice pp lp kp, .int .i64 n]] W fun e w' => e = .returned (.tuple #[.string R.1, .int .i64 R.2]) ∧ Below W.heap.size W w') := HX
        have HB6 : Hid (Below w2.heap.size w2 (wr.alloc (.cells #[.string N, .int .i64 xa, .int .i64 xi, .string T, .slice pe le ke, .slice pi li ki, .slice pp lp kp, .int .i64 n] 57))) := B.alloc B.size _
        have HC6 : Hid (CellsAt (wr.alloc (.cells #[.string N, .int .i64 xa, .int .i64 xi, .string T, .slice pe le ke, .slice pi li ki, .slice pp lp kp, .int .i64 n] 57)) wr.heap.size 57 #[.string N, .int .i64 xa, .int .i64 xi, .string T, .slice pe le ke, .slice pi li ki, .slice pp lp kp, .int .i64 n]) := CellsAt.new wr 57 #[.string N, .int .i64 xa, .int .i64 xi, .string T, .slice pe le ke, .slice pi li ki, .slice pp lp kp, .int .i64 n]
        have HP4 : Hid (okPl ((n + zz : Nat) : Int) (L.drop (k + 1))) := by
          show okPl ((n + zz : Nat) : Int) (L.drop (k + 1))
          rw [show ((n + zz : Nat) : Int) = (n : Int) + (zz : Int) by omega]
          exact p4
        obtain ⟨R1, R2⟩ := R
        dsimp only at HXX HR HIX
        clear hcells hx hLx HX HMM HAC HAN HIS HSZ HCC HRR p4 hat HO2 K3
        go_wp2_with fail
        refine (HXX.out _ (B2.trans (HB6.out.mono B2.size))).mono ?_
        rintro e w7 ⟨rfl, b7⟩
        have E7 := HB6.out.trans (b7.mono HB6.out.size)
        have F7 := B2.trans (E7.mono B2.size)
        have C7 := HC6.out.below b7 HC6.out.lt
        have g7 := C7.cell 7
        have hg7 := C7.lt
        simp at g7
        clear HB6 HC6 HXX c0 c1 c2 c3 c4 c5 c6 c7 d0 d1 d2 b7
        by_cases hq : R2 = 0
        · subst hq
          have HR2 : Hid (AF ⟨#[]⟩ L = AF (F ++ R1) (L.drop (k + 1))) := by
            show AF ⟨#[]⟩ L = _
            rw [HR.out]; rfl
          have HS2 : Hid (∃ e : Nat, (F ++ R1).size ≤ 64 * e ∧ okPl e (L.drop (k + 1))) := by
            refine ⟨n + zz, ?_, HP4.out⟩
            rw [ByteArray.size_append, hfs.out, HIX.out rfl]
            omega
          have hbig : ¬ (9223372036854775807 < F.size + R1.size) := by
            rw [hfs.out, HIX.out rfl]
            omega
          clear HR HIX HP4 hfs
          go_wp2_with fail
          refine (HF.out _).mono ?_
          rintro e w8 ⟨rfl, b8⟩
          have E8 := E7.trans (b8.mono E7.size)
          clear HF
          go_wp2
          exact ⟨⟨k + 1, F ++ R1, by omega, by go_num, rfl, HS2, HR2, E8⟩, by simp [intOf]; omega⟩
        · have hq' : (R2 != 0) = true := by simpa using hq
          have HR2 : Hid (AF ⟨#[]⟩ L = (⟨#[]⟩, R2)) := by
            show AF ⟨#[]⟩ L = _
            rw [HR.out, if_pos hq]
          clear HR hq HIX HF
          go_wp2
          go_ret2
          exact ⟨by rw [HR2.out]; rfl, F7⟩
      · obtain rfl : k = l.length := by omega
        have HZ : Hid (AF ⟨#[]⟩ L = (fillTo S 1024, 0)) := by
          show AF ⟨#[]⟩ L = (fillTo S 1024, 0)
          rw [HCC.out, show L.drop l.length = [] from by rw [← hLL, ← List.length_map (f := PV.plc)]; exact List.drop_length, HAN.out]
        have HF : Hid (∀ W, Calls Tryz.prog 166 #[.string S, .int .i64 16] W fun e w' => e = .returned (.string (fillTo S 1024)) ∧ Below W.heap.size W w') := fun W => by
          obtain ⟨e, he, hpl⟩ := HSZ.out
          have := okPl_end hpl
          exact filled_any S 16 W (by omega) (by omega)
        generalize fillTo S 1024 = F at *
        clear HSZ HCC HMM
        go_wp2_with fail
        refine (HF.out _).mono ?_
        rintro e w8 ⟨rfl, b8⟩
        have E8 := B'.trans (b8.mono B'.size)
        go_wp2
        go_ret2
        exact ⟨by rw [HZ.out]; rfl, E8⟩

end Go.Proofs.YtlpnfbpgnfappaaGreat

/- Registries: what is wrong with them, and the contract of registry.Check. -/
namespace Go.Proofs.YtlpnfbpgnfappaaGreat
open Go.RowKit Go.PlainAid

set_option maxRecDepth 100000

/-- What is wrong with a registry. -/
def chkRg (K : Ker) (L : List Plc) : Int := if chkLink K L ≠ 0 then chkLink K L else if (ordOf L).2 ≠ 0 then (ordOf L).2 else (areaOf K L).2
theorem chkRg_cases (K : Ker) (L : List Plc) : (chkKer K ≠ 0 ∧ chkRg K L = chkKer K) ∨ (chkKer K = 0 ∧ chkReg L ≠ 0 ∧ chkRg K L = chkReg L) ∨ (chkKer K = 0 ∧ chkReg L = 0 ∧ (ordOf L).2 ≠ 0 ∧ chkRg K L = (ordOf L).2) ∨ (chkKer K = 0 ∧ chkReg L = 0 ∧ (ordOf L).2 = 0 ∧ chkRg K L = (areaOf K L).2) := by
  unfold chkRg
  rcases chkLink_cases K L with ⟨h, e⟩ | ⟨h1, h2, e⟩ | ⟨h1, h2, h3, e⟩ | ⟨h1, h2, h3, e⟩
  · exact .inl ⟨h, by rw [e, if_pos h]⟩
  · exact .inr (.inl ⟨h1, h2, by rw [e, if_pos h2]⟩)
  · rcases lnOrd_err h2 with ⟨_, h4⟩ | ⟨h4, _⟩
    · exact .inr (.inr (.inl ⟨h1, h2, by omega, by rw [e, if_pos (by decide), h4]⟩))
    · rw [h3] at h4; cases h4
  · rw [e, if_neg (by decide)]
    by_cases h4 : (ordOf L).2 = 0
    · exact .inr (.inr (.inr ⟨h1, h2, h4, by rw [if_neg (by omega)]⟩))
    · exact .inr (.inr (.inl ⟨h1, h2, h4, by rw [if_pos h4]⟩))
theorem chkRg_zero {K : Ker} {L : List Plc} (h : chkRg K L = 0) : chkLink K L = 0 ∧ (ordOf L).2 = 0 ∧ (areaOf K L).2 = 0 := by
  unfold chkRg at h
  by_cases h1 : chkLink K L = 0
  · rw [if_neg (by omega)] at h
    by_cases h2 : (ordOf L).2 = 0
    · rw [if_neg (by omega)] at h
      exact ⟨h1, h2, h⟩
    · rw [if_pos h2] at h
      exact absurd h h2
  · rw [if_pos h1] at h
    exact absurd h h1

/-- A registry in memory. -/
def IsReg (n₀ : Nat) (W : World) (v : Value) (K : Ker) (l : List PV) : Prop := ∃ ve vl, v = .agg #[.int .i64 K.major, .int .i64 K.minor, ve, vl] ∧ RowOf 2 Exp.cell n₀ W ve K.exps ∧ IsPlcs n₀ W vl l
theorem IsReg.below {n₀ : Nat} {W W' : World} {v : Value} {K : Ker} {l : List PV} (h : IsReg n₀ W v K l) (hb : Below n₀ W W') : IsReg n₀ W' v K l := by
  obtain ⟨ve, vl, e, h1, h2⟩ := h
  exact ⟨ve, vl, e, h1.below hb, h2.below hb⟩
theorem IsReg.more {n₀ n₁ : Nat} {W : World} {v : Value} {K : Ker} {l : List PV} (h : IsReg n₀ W v K l) (hn : n₀ ≤ n₁) : IsReg n₁ W v K l := by
  obtain ⟨ve, vl, e, h1, h2⟩ := h
  exact ⟨ve, vl, e, h1.more hn, h2.more hn⟩

set_option maxHeartbeats 4000000 in
theorem regCheck_any (K : Ker) (l : List PV) (v : Value) (w : World) (h : IsReg w.heap.size w v K l) (hf : K.fits) (hfit : ∀ x ∈ l, x.mod.fits) :
    Calls Tryz.prog 68 #[v] w fun e w' => e = .returned (.int .i64 (chkRg K (l.map PV.plc))) ∧ Below w.heap.size w w' := by
  obtain ⟨ve, vl, rfl, hE, hL⟩ := h
  have hK : IsKer w.heap.size w (.agg #[.int .i64 K.major, .int .i64 K.minor, ve]) K := ⟨ve, rfl, hE⟩
  have HC : Hid (∀ W, Below w.heap.size w W → Calls Tryz.prog 72 #[.agg #[.int .i64 K.major, .int .i64 K.minor, ve]] W fun e w' => e = .returned (.int .i64 (chkKer K)) ∧ Below W.heap.size W w') := fun W hb => kernel_any K _ W ((hK.below hb).more hb.size) hf
  have HF : Hid (∀ W, Below w.heap.size w W → Calls Tryz.prog 19 #[vl] W fun e w' => (∃ r, e = .returned (.tuple #[r, .int .i64 (chkReg (l.map PV.plc))]) ∧ RowOf 2 runCell w'.heap.size w' r (freeRes (l.map PV.plc))) ∧ Below W.heap.size W w') := fun W hb => free_any l vl W ((hL.below hb).more hb.size) hfit
  have HO : Hid (∀ W, Below w.heap.size w W → Calls Tryz.prog 33 #[vl] W fun e w' => (∃ r, e = .returned (.tuple #[r, .int .i64 (ordOf (l.map PV.plc)).2]) ∧ RowOf 1 strCell w'.heap.size w' r (ordOf (l.map PV.plc)).1 ∧ CapOk r) ∧ Below W.heap.size W w') := fun W hb => order_any l vl W ((hL.below hb).more hb.size) hfit
  have HA : Hid (∀ W, Below w.heap.size w W → Calls Tryz.prog 123 #[.agg #[.int .i64 K.major, .int .i64 K.minor, ve], vl] W fun e w' => e = .returned (.tuple #[.string (areaOf K (l.map PV.plc)).1, .int .i64 (areaOf K (l.map PV.plc)).2]) ∧ Below W.heap.size W w') := fun W hb => linkArea_any K _ l vl W ((hK.below hb).more hb.size) hf ((hL.below hb).more hb.size) hfit
  have key := chkRg_cases K (l.map PV.plc)
  generalize chkRg K (l.map PV.plc) = cr at *
  clear hK hf hfit
  obtain ⟨qe, je, rfl, _, _⟩ := hE
  obtain ⟨⟨a, cap, rfl, _, _⟩, _⟩ := hL
  generalize areaOf K (l.map PV.plc) = ar at *
  generalize chkKer K = ck at *
  generalize l.map PV.plc = L at *
  generalize chkReg L = cg at *
  generalize freeRes L = fr at *
  generalize ordOf L = od at *
  obtain ⟨oa, oe⟩ := od
  obtain ⟨az, ae⟩ := ar
  obtain ⟨ma, mi, ks⟩ := K
  dsimp only at *
  generalize ks.length = lk at *
  generalize l.length = ll at *
  have BB : Below w.heap.size w (w.alloc (.cells #[.int .i64 ma, .int .i64 mi, .slice qe lk je, .slice a ll cap] 27)) := (Below.refl _ _).alloc (Nat.le_refl _) _
  have KB : CellsAt (w.alloc (.cells #[.int .i64 ma, .int .i64 mi, .slice qe lk je, .slice a ll cap] 27)) w.heap.size 27 #[.int .i64 ma, .int .i64 mi, .slice qe lk je, .slice a ll cap] := CellsAt.new w 27 #[.int .i64 ma, .int .i64 mi, .slice qe lk je, .slice a ll cap]
  go_enter Tryz.func68, Tryz.ntmps68
  go_wp2_with fail
  refine (HC.out _ BB).mono ?_
  rintro e w2 ⟨rfl, b1⟩
  replace KB := KB.below b1 KB.lt
  replace BB := BB.trans (b1.mono BB.size)
  clear b1 HC
  have k0 := KB.cell 0
  have k1 := KB.cell 1
  have k2 := KB.cell 2
  have k3 := KB.cell 3
  have hk := KB.lt
  simp at k0 k1 k2 k3
  rcases key with ⟨h1, rfl⟩ | ⟨rfl, h2, rfl⟩ | ⟨rfl, rfl, h3, rfl⟩ | ⟨rfl, rfl, rfl, rfl⟩
  · have h1' : (cr != 0) = true := by simpa using h1
    clear h1
    go_wp2
    go_ret
    exact ⟨rfl, BB⟩
  all_goals
    go_wp2_with fail
    refine (HF.out _ BB).mono ?_
    rintro e w3 ⟨⟨r, rfl, ra, rc, rfl, _, _⟩, b1⟩
    replace KB := KB.below b1 KB.lt
    replace BB := BB.trans (b1.mono BB.size)
    clear b1 HF k0 k1 k2 k3 hk
    have k0 := KB.cell 0
    have k1 := KB.cell 1
    have k2 := KB.cell 2
    have k3 := KB.cell 3
    have hk := KB.lt
    simp at k0 k1 k2 k3
  · have h2' : (cr != 0) = true := by simpa using h2
    clear h2
    go_wp2
    go_ret
    exact ⟨rfl, BB⟩
  all_goals
    go_wp2_with fail
    refine (HO.out _ BB).mono ?_
    rintro e w4 ⟨⟨s, rfl, ⟨sa, sc, rfl, _, _⟩, _⟩, b1⟩
    replace KB := KB.below b1 KB.lt
    replace BB := BB.trans (b1.mono BB.size)
    clear b1 HO k0 k1 k2 k3 hk
    have k0 := KB.cell 0
    have k1 := KB.cell 1
    have k2 := KB.cell 2
    have k3 := KB.cell 3
    have hk := KB.lt
    simp at k0 k1 k2 k3
  · have h3' : (cr != 0) = true := by simpa using h3
    clear h3
    go_wp2
    go_ret
    exact ⟨rfl, BB⟩
  · go_wp2_with fail
    refine (HA.out _ BB).mono ?_
    rintro e w5 ⟨rfl, b1⟩
    replace BB := BB.trans (b1.mono BB.size)
    go_wp2
    go_ret
    exact ⟨rfl, BB⟩

end Go.Proofs.YtlpnfbpgnfappaaGreat

/- Where images lie in the area, byte by byte, as data; and what an image does not hang on. -/
namespace Go.Proofs.YtlpnfbpgnfappaaGreat
open Go.RowKit Go.PlainAid

theorem bt_app_left {a b : ByteArray} {i : Nat} (h : i < a.size) : bt (a ++ b) i = bt a i := by
  rw [bt_list, bt_list, bytes_app, List.getElem?_append_left (by rw [← size_list]; exact h)]
theorem bt_app_right {a b : ByteArray} {i : Nat} (h : a.size ≤ i) : bt (a ++ b) i = bt b (i - a.size) := by
  rw [bt_list, bt_list, bytes_app, List.getElem?_append_right (by rw [← size_list]; exact h), ← size_list]
theorem bt_blanks {n i : Nat} (h : i < n) : bt (blanks n) i = 255 := by
  rw [bt_list, blanks_list, List.getElem?_replicate, if_pos h]
  rfl
theorem bt_fill_left {s : ByteArray} {n i : Nat} (h : i < s.size) : bt (fillTo s n) i = bt s i := bt_app_left h
theorem bt_fill_right {s : ByteArray} {n i : Nat} (h : s.size ≤ i) (hn : i < n) : bt (fillTo s n) i = 255 := by
  unfold fillTo
  rw [bt_app_right h, bt_blanks (by omega)]

/-- Is a byte none of those that a patch is put into? -/
def clearOf (p : Pat) (i : Nat) : Prop := (i : Int) < p.pos ∨ p.pos + width p.kind ≤ i
theorem width_nonneg (k : Int) : 0 ≤ width k := by
  unfold width
  split
  · omega
  · split
    · omega
    · split <;> omega
theorem app_out {s : ByteArray} {p : Pat} {sym base : Int} (h : appErr s.size p sym base = 0) {i : Nat} (hi : clearOf p i) : bt (appStr s p sym base) i = bt s i := by
  have hw := width_nonneg p.kind
  have hp : 0 ≤ p.pos ∧ p.pos + width p.kind ≤ s.size := by
    have h' := h
    unfold appErr at h'
    split at h'
    · omega
    · split at h'
      · omega
      · rename_i _ hb
        simp only [Bool.not_eq_false, Bool.and_eq_true, betw_iff] at hb
        omega
  unfold appStr
  rw [if_pos h]
  unfold clearOf at hi
  exact bt_put_out _ _ _ _ _ (by omega) (by omega)
theorem patd_out {ads : List Int} {beg : Int} : ∀ {l : List Pat} {s : ByteArray}, (patd ads beg s l).2 = 0 → ∀ {i : Nat}, (∀ p ∈ l, clearOf p i) → bt (patd ads beg s l).1 i = bt s i
  | [], s, _, i, _ => rfl
  | p :: r, s, h, i, hi => by
    unfold patd at h ⊢
    by_cases h0 : appErr s.size p (symOf ads beg p) beg = 0
    · rw [if_neg (by omega)] at h ⊢
      rw [patd_out h (fun q hq => hi q (List.mem_cons_of_mem _ hq)), app_out h0 (hi p (by simp))]
    · rw [if_pos h0] at h
      exact absurd h h0
theorem img_byte {K : Ker} {L : List Plc} {p : Plc} (h : (imgRes K L p).2 = 0) : (imgRes K L p).1.size = 64 * szM p.mod ∧ p.mod.text.size ≤ 64 * szM p.mod ∧
    (∀ n, n < 64 * szM p.mod → p.mod.text.size ≤ n → bt (imgRes K L p).1 n = 255) ∧ (∀ n, n < p.mod.text.size → (∀ q ∈ p.mod.pats, clearOf q n) → bt (imgRes K L p).1 n = bt p.mod.text n) := by
  refine ⟨imgRes_size h, szM_le _, ?_⟩
  rcases imgRes_cases K L p with ⟨h1, e⟩ | ⟨h1, h2, e⟩ | ⟨h1, h2, e⟩
  · rw [e] at h; exact absurd h h1
  · rw [e] at h; exact absurd h h2
  · rw [e]
    have hs := patd_size h2
    refine ⟨fun n hn ht => bt_fill_right (by omega) hn, fun n hn hq => ?_⟩
    rw [bt_fill_left (by omega), patd_out h2 hq]

theorem area_byte {K : Ker} {L : List Plc} : ∀ (l : List Plc) (s : ByteArray) (e : Nat), okPl e l → s.size ≤ 64 * e → (areaFrom K L s l).2 = 0 →
    (areaFrom K L s l).1.size = 1024 ∧ (∀ i, i < s.size → bt (areaFrom K L s l).1 i = bt s i) ∧
    (∀ p ∈ l, (imgRes K L p).2 = 0 ∧ ∀ n, n < 64 * szM p.mod → bt (areaFrom K L s l).1 (64 * p.first.toNat + n) = bt (imgRes K L p).1 n) ∧
    (∀ i, s.size ≤ i → i < 1024 → (∀ p ∈ l, i < 64 * p.first.toNat ∨ 64 * p.first.toNat + 64 * szM p.mod ≤ i) → bt (areaFrom K L s l).1 i = 255)
  | [], s, e, hok, hs, h => by
    have he : (e : Int) ≤ 16 := hok
    have hn : areaFrom K L s [] = (fillTo s 1024, 0) := rfl
    rw [hn]
    exact ⟨fillTo_size (by omega), fun i hi => bt_fill_left hi, fun p hp => absurd hp (by simp), fun i h1 h2 _ => bt_fill_right h1 h2⟩
  | p :: r, s, e, hok, hs, h => by
    obtain ⟨p1, p2, p3, p4⟩ := hok
    have hst : areaFrom K L s (p :: r) = if (imgRes K L p).2 ≠ 0 then (⟨#[]⟩, (imgRes K L p).2) else areaFrom K L (fillTo s (64 * p.first.toNat) ++ (imgRes K L p).1) r := rfl
    by_cases h0 : (imgRes K L p).2 = 0
    · rw [if_neg (by omega)] at hst
      rw [hst] at h ⊢
      have hsz := imgRes_size h0
      have hfs : (fillTo s (64 * p.first.toNat)).size = 64 * p.first.toNat := fillTo_size (by omega)
      have hap : (fillTo s (64 * p.first.toNat) ++ (imgRes K L p).1).size = 64 * (p.first.toNat + szM p.mod) := by rw [ByteArray.size_append, hfs, hsz]; omega
      obtain ⟨g1, g2, g3, g4⟩ := area_byte r _ (p.first.toNat + szM p.mod) (by rw [show ((p.first.toNat + szM p.mod : Nat) : Int) = p.first + szM p.mod by omega]; exact p4) (by omega) h
      refine ⟨g1, fun i hi => ?_, fun q hq => ?_, fun i h1 h2 h3 => ?_⟩
      · rw [g2 i (by omega), bt_app_left (by omega), bt_fill_left hi]
      · rcases List.mem_cons.1 hq with rfl | hq
        · refine ⟨h0, fun n hn => ?_⟩
          rw [g2 _ (by omega), bt_app_right (by omega), hfs, Nat.add_sub_cancel_left]
        · exact g3 q hq
      · by_cases hi : i < 64 * (p.first.toNat + szM p.mod)
        · have := h3 p (by simp)
          rw [g2 i (by omega), bt_app_left (by omega), bt_fill_right h1 (by omega)]
        · exact g4 i (by omega) h2 (fun q hq => h3 q (List.mem_cons_of_mem _ hq))
    · rw [hst, if_pos h0] at h
      exact absurd h h0

theorem find_nodup : ∀ {L : List Plc}, (L.map (·.mod.name)).Nodup → ∀ {p : Plc}, p ∈ L → L.find? (fun q => q.mod.name == p.mod.name) = some p
  | [], _, p, hp => absurd hp (by simp)
  | x :: l, h, p, hp => by
    rw [List.map_cons, List.nodup_cons] at h
    rcases List.mem_cons.1 hp with rfl | hp
    · have hb : (p.mod.name == p.mod.name) = true := (Go.MapKept.bytes_beq _ _).2 rfl
      exact List.find?_cons_of_pos (p := fun q : Plc => q.mod.name == p.mod.name) hb
    · have hne : x.mod.name ≠ p.mod.name := fun e => h.1 (e ▸ List.mem_map.2 ⟨p, hp, rfl⟩)
      have hb : ¬ (x.mod.name == p.mod.name) = true := fun e => hne ((Go.MapKept.bytes_beq _ _).1 e)
      exact (List.find?_cons_of_neg (p := fun q : Plc => q.mod.name == p.mod.name) hb).trans (find_nodup h.2 hp)
/-- The image of one that is there. -/
theorem imageOf_at {K : Ker} {L : List Plc} (h : chkLink K L = 0) {p : Plc} (hp : p ∈ L) : imageOf K L p.mod.name = imgRes K L p := by
  have ht := twice_nodup L [] (by simp)
  rw [List.nil_append] at ht
  unfold imageOf
  rw [if_neg (by omega), find_nodup (ht.1 (chkLink_zero h).2.2) hp]
theorem areaOf_zero {K : Ker} {L : List Plc} (h : (areaOf K L).2 = 0) : chkLink K L = 0 ∧ areaOf K L = areaFrom K L ⟨#[]⟩ L ∧ (areaFrom K L ⟨#[]⟩ L).2 = 0 := by
  unfold areaOf at h ⊢
  by_cases h0 : chkLink K L = 0
  · rw [if_neg (by omega)] at h ⊢
    exact ⟨h0, rfl, h⟩
  · rw [if_pos h0] at h
    exact absurd h h0
theorem areaOf_bad {K : Ker} {L : List Plc} (h : (areaOf K L).2 ≠ 0) : (areaOf K L).1 = ⟨#[]⟩ := by
  have key : ∀ l s, (areaFrom K L s l).2 ≠ 0 → (areaFrom K L s l).1 = ⟨#[]⟩ := by
    intro l
    induction l with
    | nil => intro s h; exact absurd rfl h
    | cons p r ih =>
      intro s h
      have hst : areaFrom K L s (p :: r) = if (imgRes K L p).2 ≠ 0 then (⟨#[]⟩, (imgRes K L p).2) else areaFrom K L (fillTo s (64 * p.first.toNat) ++ (imgRes K L p).1) r := rfl
      rw [hst] at h ⊢
      by_cases h0 : (imgRes K L p).2 = 0
      · rw [if_neg (by omega)] at h ⊢
        exact ih _ h
      · rw [if_pos h0]
  unfold areaOf at h ⊢
  by_cases h0 : chkLink K L = 0
  · rw [if_neg (by omega)] at h ⊢
    exact key _ _ h
  · rw [if_pos h0]

/-- All that is asked of modules but for their texts' bytes. -/
def blurM (m : Mod) : Mod := ⟨m.name, m.major, m.minor, blanks m.text.size, m.exps, m.imps, m.pats⟩
def blur (p : Plc) : Plc := ⟨blurM p.mod, p.first⟩
theorem chkMod_blur (m : Mod) : chkMod (blurM m) = chkMod m := by
  unfold chkMod blurM
  dsimp only
  rw [blanks_size]
theorem szM_blur (m : Mod) : szM (blurM m) = szM m := by
  unfold szM blurM
  dsimp only
  rw [blanks_size]
theorem chkBy_blur {q : Plc → Int} (hq : ∀ p, q (blur p) = q p) : ∀ L : List Plc, chkBy q (L.map blur) = chkBy q L
  | [] => rfl
  | p :: l => by
    have hs : ∀ (p : Plc) l, chkBy q (p :: l) = if chkMod p.mod ≠ 0 then chkMod p.mod else if q p ≠ 0 then q p else chkBy q l := fun _ _ => rfl
    rw [List.map_cons, hs, hs, hq, chkBy_blur hq l]
    have hm : chkMod (blur p).mod = chkMod p.mod := chkMod_blur p.mod
    rw [hm]
theorem behind_blur : ∀ (L : List Plc) (e : Int), behind e (L.map blur) = behind e L
  | [], _ => rfl
  | p :: l, e => by
    have hs : ∀ (p : Plc) l e, behind e (p :: l) = (!decide (p.first < e) && behind (p.first + szM p.mod) l) := fun _ _ _ => rfl
    rw [List.map_cons, hs, hs, behind_blur l]
    show (!decide (p.first < e) && behind (p.first + szM (blurM p.mod)) l) = _
    rw [szM_blur]
theorem chkReg_blur (L : List Plc) : chkReg (L.map blur) = chkReg L := by
  unfold chkReg
  rw [chkBy_blur (fun p => by
    unfold outErr
    show (if p.first < 0 ∨ 16 - (szM (blurM p.mod) : Int) < p.first then (3 : Int) else 0) = _
    rw [szM_blur]) L, behind_blur, List.length_map]
theorem twice_blur : ∀ (L : List Plc) (met : List ByteArray), twiceFrom met (L.map blur) = twiceFrom met L
  | [], _ => rfl
  | p :: l, met => by
    have hs : ∀ (p : Plc) l met, twiceFrom met (p :: l) = ((met.any fun y => y == p.mod.name) || twiceFrom (met ++ [p.mod.name]) l) := fun _ _ _ => rfl
    rw [List.map_cons, hs, hs, twice_blur l]
    rfl
theorem chkLink_blur (K : Ker) (L : List Plc) : chkLink K (L.map blur) = chkLink K L := by
  unfold chkLink
  rw [chkReg_blur, twice_blur]
theorem chkFind_blur (K : Ker) (L : List Plc) : chkFind K (L.map blur) = chkFind K L := by
  unfold chkFind chkPlaced
  rw [chkPls_by, chkPls_by, chkBy_blur (fun _ => rfl) L, List.length_map]
theorem tgt_blur (K : Ker) (L : List Plc) (n : ByteArray) : tgtOf K (L.map blur) n = tgtOf K L n := by
  unfold tgtOf
  rw [List.find?_map]
  have : ((fun p : Plc => p.mod.name == n) ∘ blur) = fun p : Plc => p.mod.name == n := rfl
  rw [this]
  cases L.find? fun p : Plc => p.mod.name == n <;> rfl
theorem addr_blur (K : Ker) (L : List Plc) (i : Imp) : addrOf K (L.map blur) i = addrOf K L i := by
  unfold addrOf
  rw [tgt_blur]
theorem addrs_blur (K : Ker) (L : List Plc) : ∀ (is : List Imp) (acc : List Int), addrsFrom K (L.map blur) acc is = addrsFrom K L acc is
  | [], _ => rfl
  | i :: r, acc => by
    have hs : ∀ L, addrsFrom K L acc (i :: r) = if (addrOf K L i).2 ≠ 0 then ([], (addrOf K L i).2) else addrsFrom K L (acc ++ [(addrOf K L i).1]) r := fun _ => rfl
    rw [hs, hs, addr_blur, addrs_blur K L r]
theorem all_blur (K : Ker) (L : List Plc) (m : Mod) : allRes K (L.map blur) m = allRes K L m := by
  unfold allRes
  rw [chkFind_blur, addrs_blur]
theorem img_blur (K : Ker) (L : List Plc) (p : Plc) : imgRes K (L.map blur) p = imgRes K L p := by
  unfold imgRes
  rw [all_blur]
/-- Another text of the same size changes no image of another one. -/
theorem image_alone (K : Ker) {L L' : List Plc} (hb : L'.map blur = L.map blur) {p : Plc} (h1 : p ∈ L) (h2 : p ∈ L') : imageOf K L' p.mod.name = imageOf K L p.mod.name := by
  have hc : chkLink K L' = chkLink K L := by rw [← chkLink_blur, hb, chkLink_blur]
  by_cases h0 : chkLink K L = 0
  · rw [imageOf_at h0 h1, imageOf_at (hc.trans h0) h2, ← img_blur, hb, img_blur]
  · unfold imageOf
    rw [hc, if_pos h0, if_pos h0]

end Go.Proofs.YtlpnfbpgnfappaaGreat

/- What is moved by whole sectors stays right, as data. -/
namespace Go.Proofs.YtlpnfbpgnfappaaGreat
open Go.RowKit Go.PlainAid

/-- The same modules, in the same order. -/
theorem find_mods : ∀ {L L' : List Plc} (name : ByteArray), L'.map (·.mod) = L.map (·.mod) →
    (L.find? (fun p => p.mod.name == name) = none ∧ L'.find? (fun p => p.mod.name == name) = none) ∨ ∃ p p', L.find? (fun p => p.mod.name == name) = some p ∧ L'.find? (fun p => p.mod.name == name) = some p' ∧ p'.mod = p.mod ∧ p ∈ L ∧ p' ∈ L'
  | [], [], _, _ => .inl ⟨rfl, rfl⟩
  | [], _ :: _, _, h => by cases h
  | _ :: _, [], _, h => by cases h
  | p :: l, q :: l', name, h => by
    rw [List.map_cons, List.map_cons] at h
    injection h with h1 h2
    cases hb : (p.mod.name == name) with
    | true =>
      have hb' : (q.mod.name == name) = true := by rw [h1]; exact hb
      exact .inr ⟨p, q, List.find?_cons_of_pos (p := fun p : Plc => p.mod.name == name) hb, List.find?_cons_of_pos (p := fun p : Plc => p.mod.name == name) hb', h1, by simp, by simp⟩
    | false =>
      have hb1 : ¬ (p.mod.name == name) = true := by rw [hb]; decide
      have hb2 : ¬ (q.mod.name == name) = true := by rw [h1, hb]; decide
      rw [List.find?_cons_of_neg (p := fun p : Plc => p.mod.name == name) hb1, List.find?_cons_of_neg (p := fun p : Plc => p.mod.name == name) hb2]
      rcases find_mods name h2 with h | ⟨x, y, e1, e2, e3, e4, e5⟩
      · exact .inl h
      · exact .inr ⟨x, y, e1, e2, e3, List.mem_cons_of_mem _ e4, List.mem_cons_of_mem _ e5⟩
/-- Where an import is: as it was, or moved by an even number. -/
theorem addr_mods {K : Ker} {L L' : List Plc} (h : L'.map (·.mod) = L.map (·.mod)) (i : Imp) : (addrOf K L' i).2 = (addrOf K L i).2 ∧ ((addrOf K L' i).1 - (addrOf K L i).1) % 2 = 0 := by
  unfold addrOf tgtOf
  by_cases hk : (i.mod == kernelName) = true
  · rw [if_pos hk, if_pos hk]
    exact ⟨rfl, by simp⟩
  · rw [if_neg hk, if_neg hk]
    rcases find_mods i.mod h with ⟨e1, e2⟩ | ⟨p, p', e1, e2, e3, _, _⟩
    · rw [e1, e2]
      exact ⟨rfl, by simp⟩
    · rw [e1, e2]
      dsimp only [Option.map]
      rw [e3]
      split
      · exact ⟨rfl, by simp⟩
      · cases expOf p.mod.exps i.name with
        | none => exact ⟨rfl, by simp⟩
        | some x =>
          refine ⟨rfl, ?_⟩
          dsimp only
          omega
/-- Rows of numbers that are even apart. -/
def Evens (a b : List Int) : Prop := a.length = b.length ∧ ∀ (j : Nat) (x y : Int), a[j]? = some x → b[j]? = some y → (x - y) % 2 = 0
theorem Evens.snoc {a b : List Int} {x y : Int} (h : Evens a b) (hxy : (x - y) % 2 = 0) : Evens (a ++ [x]) (b ++ [y]) := by
  refine ⟨by simp [h.1], fun j u v hu hv => ?_⟩
  by_cases hj : j < a.length
  · rw [List.getElem?_append_left hj] at hu
    rw [List.getElem?_append_left (by rw [← h.1]; exact hj)] at hv
    exact h.2 j u v hu hv
  · rw [List.getElem?_append_right (by omega)] at hu
    rw [List.getElem?_append_right (by rw [← h.1]; omega)] at hv
    have hj0 : j - a.length = 0 := by
      have := (List.getElem?_eq_some_iff.1 hu).1
      simp at this
      omega
    rw [hj0] at hu
    rw [← h.1, hj0] at hv
    simp at hu hv
    rw [← hu, ← hv]
    exact hxy
theorem addrs_mods {K : Ker} {L L' : List Plc} (h : L'.map (·.mod) = L.map (·.mod)) : ∀ (is : List Imp) (a b : List Int), Evens a b → (addrsFrom K L' a is).2 = (addrsFrom K L b is).2 ∧ Evens (addrsFrom K L' a is).1 (addrsFrom K L b is).1
  | [], a, b, hab => ⟨rfl, hab⟩
  | i :: r, a, b, hab => by
    have hs : ∀ L a, addrsFrom K L a (i :: r) = if (addrOf K L i).2 ≠ 0 then ([], (addrOf K L i).2) else addrsFrom K L (a ++ [(addrOf K L i).1]) r := fun _ _ => rfl
    obtain ⟨h1, h2⟩ := addr_mods (K := K) h i
    rw [hs, hs, h1]
    by_cases h0 : (addrOf K L i).2 = 0
    · rw [if_neg (by omega), if_neg (by omega)]
      exact addrs_mods h r _ _ (hab.snoc h2)
    · rw [if_pos h0, if_pos h0]
      exact ⟨rfl, rfl, fun j x y hx _ => by simp at hx⟩
/-- Addresses lie in their bounds. -/
theorem addr_bd {K : Ker} {L : List Plc} (h : chkFind K L = 0) (i : Imp) : 0 ≤ (addrOf K L i).1 ∧ (addrOf K L i).1 ≤ 9151 := by
  have hz : (0 : Int) ≤ 0 ∧ (0 : Int) ≤ 9151 := by decide
  rcases addrOf_cases K L i with ⟨_, e⟩ | ⟨t, ht, ⟨_, e⟩ | ⟨_, _, e⟩ | ⟨_, _, ⟨_, e⟩ | ⟨x, hx, e⟩⟩⟩
  · rw [e]; exact hz
  · rw [e]; exact hz
  · rw [e]; exact hz
  · rw [e]; exact hz
  · obtain ⟨b1, b2, _, b4⟩ := tgt_bd h ht
    have := b4 x (List.mem_of_find?_eq_some hx)
    rw [e]
    exact ⟨by dsimp only; omega, by dsimp only; omega⟩
theorem addrs_bd {K : Ker} {L : List Plc} (h : chkFind K L = 0) : ∀ (is : List Imp) (a : List Int), (∀ x ∈ a, 0 ≤ x ∧ x ≤ 9151) → ∀ x ∈ (addrsFrom K L a is).1, 0 ≤ x ∧ x ≤ 9151
  | [], a, ha => ha
  | i :: r, a, ha => by
    have hs : addrsFrom K L a (i :: r) = if (addrOf K L i).2 ≠ 0 then ([], (addrOf K L i).2) else addrsFrom K L (a ++ [(addrOf K L i).1]) r := rfl
    rw [hs]
    by_cases h0 : (addrOf K L i).2 = 0
    · rw [if_neg (by omega)]
      refine addrs_bd h r _ fun x hx => ?_
      rcases List.mem_append.1 hx with hx | hx
      · exact ha x hx
      · rw [List.mem_singleton.1 hx]
        exact addr_bd h i
    · rw [if_pos h0]
      intro x hx
      simp at hx

/-- A patch that could be put can be put where all is even apart. -/
theorem app_even {n : Int} {p : Pat} {sy sy' bg bg' : Int} (h : appErr n p sy bg = 0) (h1 : (sy' - sy) % 2 = 0) (h2 : (bg' - bg) % 2 = 0) (b1 : 0 ≤ sy' ∧ sy' ≤ 9151) (b2 : 0 ≤ bg' ∧ bg' ≤ 9151) (hn : n ≤ 256) : appErr n p sy' bg' = 0 := by
  have hw := width_nonneg p.kind
  unfold appErr at h ⊢
  split at h
  · omega
  · rename_i hw0
    rw [if_neg hw0]
    split at h
    · omega
    · rename_i hb
      simp only [Bool.not_eq_false, Bool.and_eq_true, betw_iff] at hb
      obtain ⟨⟨q1, q2⟩, q3⟩ := hb
      have hb' : (betw p.add 0 65535 && betw p.pos 0 (n - width p.kind) && betw bg' 0 65279) = true := by
        simp only [Bool.and_eq_true, betw_iff]
        exact ⟨⟨q1, q2⟩, by omega, by omega⟩
      rw [hb', if_neg (by decide)]
      unfold valErr at h ⊢
      rw [if_neg hw0] at h ⊢
      have hv : valRange sy' p.add (bg' + p.pos) = true := by
        unfold valRange
        simp only [Bool.and_eq_true, betw_iff]
        omega
      rw [hv, if_neg (by decide)]
      split at h
      · omega
      · split at h
        · omega
        · rename_i hk
          rw [if_neg ?_]
          rintro ⟨k1, k2⟩
          exact hk ⟨k1, by omega⟩
theorem patd_even {ads ads' : List Int} {bg bg' : Int} (ha : Evens ads' ads) (hb : (bg' - bg) % 2 = 0) (ba : ∀ x ∈ ads', 0 ≤ x ∧ x ≤ 9151) (bb : 0 ≤ bg' ∧ bg' ≤ 9151) : ∀ (ps : List Pat) (s s' : ByteArray), s'.size = s.size → s.size ≤ 256 → (∀ p ∈ ps, p.sym < ads.length) → (patd ads bg s ps).2 = 0 → (patd ads' bg' s' ps).2 = 0
  | [], _, _, _, _, _, _ => rfl
  | p :: r, s, s', hs, hn, hp, h => by
    unfold patd at h ⊢
    by_cases h0 : appErr s.size p (symOf ads bg p) bg = 0
    · rw [if_neg (by omega)] at h
      have hsy : ((symOf ads' bg' p) - (symOf ads bg p)) % 2 = 0 ∧ 0 ≤ symOf ads' bg' p ∧ symOf ads' bg' p ≤ 9151 := by
        unfold symOf
        by_cases hsym : 0 ≤ p.sym
        · rw [if_pos hsym, if_pos hsym]
          have hl := hp p (by simp)
          have hj : p.sym.toNat < ads.length := by omega
          have hj' : p.sym.toNat < ads'.length := by rw [ha.1]; exact hj
          rw [List.getElem?_eq_getElem hj, List.getElem?_eq_getElem hj']
          dsimp only [Option.getD]
          have := ba ads'[p.sym.toNat] (List.getElem_mem hj')
          exact ⟨ha.2 _ _ _ (List.getElem?_eq_getElem hj') (List.getElem?_eq_getElem hj), this.1, this.2⟩
        · rw [if_neg hsym, if_neg hsym]
          exact ⟨hb, bb.1, bb.2⟩
      have h0' : appErr s'.size p (symOf ads' bg' p) bg' = 0 := by
        rw [hs]
        exact app_even h0 hsy.1 hb ⟨hsy.2.1, hsy.2.2⟩ bb (by omega)
      rw [if_neg (by omega)]
      refine patd_even ha hb ba bb r _ _ ?_ ?_ (fun q hq => hp q (List.mem_cons_of_mem _ hq)) h
      · rw [appStr_size h0', appStr_size h0, hs]
      · rw [appStr_size h0]; exact hn
    · rw [if_pos h0] at h
      exact absurd h h0

theorem area_all {K : Ker} {L : List Plc} : ∀ (l : List Plc) (s : ByteArray), (∀ p ∈ l, (imgRes K L p).2 = 0) → (areaFrom K L s l).2 = 0
  | [], _, _ => rfl
  | p :: r, s, h => by
    have hst : areaFrom K L s (p :: r) = if (imgRes K L p).2 ≠ 0 then (⟨#[]⟩, (imgRes K L p).2) else areaFrom K L (fillTo s (64 * p.first.toNat) ++ (imgRes K L p).1) r := rfl
    rw [hst, if_neg (by have := h p (by simp); omega)]
    exact area_all r _ fun q hq => h q (List.mem_cons_of_mem _ hq)
/-- Modules that are right, moved by whole sectors, are right, if they still lie behind one another. -/
theorem moved_right {K : Ker} {L L' : List Plc} (h : chkRg K L = 0) (hm : L'.map (·.mod) = L.map (·.mod)) (hok : okPl 0 L') : chkRg K L' = 0 := by
  obtain ⟨h1, h2, h3⟩ := chkRg_zero h
  obtain ⟨hk, hr, ht⟩ := chkLink_zero h1
  obtain ⟨r1, r2, r3⟩ := chkReg_zero.1 hr
  have hl : L'.length = L.length := by have := congrArg List.length hm; simpa using this
  have hat : ∀ p' ∈ L', ∃ p ∈ L, p'.mod = p.mod := fun p' hp' => by
    have : p'.mod ∈ L'.map (·.mod) := List.mem_map.2 ⟨p', hp', rfl⟩
    rw [hm] at this
    obtain ⟨p, hp, e⟩ := List.mem_map.1 this
    exact ⟨p, hp, e.symm⟩
  have hr' : chkReg L' = 0 := chkReg_zero.2 ⟨by rw [hl]; exact r1, fun p' hp' => by obtain ⟨p, hp, e⟩ := hat p' hp'; rw [e]; exact r2 p hp, hok⟩
  have ht' : twiceFrom [] L' = false := by rw [twice_mods L L' [] hm]; exact ht
  have h1' : chkLink K L' = 0 := by
    unfold chkLink
    rw [if_neg (by omega), if_neg (by omega), ht']
    rfl
  have h2' : (ordOf L').2 = 0 := by rw [ord_mods L L' hm]; exact h2
  obtain ⟨_, _, h4⟩ := areaOf_zero h3
  obtain ⟨_, _, g3, _⟩ := area_byte (K := K) (L := L) L ⟨#[]⟩ 0 r3 (Nat.le_refl _) h4
  have hf := link_find h1
  have hf' := link_find h1'
  have h3' : (areaOf K L').2 = 0 := by
    unfold areaOf
    rw [if_neg (by omega)]
    refine area_all L' _ fun p' hp' => ?_
    obtain ⟨p, hp, e⟩ := hat p' hp'
    have hc := r2 p hp
    rcases imgRes_cases K L p with ⟨n1, e1⟩ | ⟨_, n2, e1⟩ | ⟨n1, n2, _⟩
    · have := (g3 p hp).1; rw [e1] at this; exact absurd this n1
    · have := (g3 p hp).1; rw [e1] at this; exact absurd this n2
    · have hal := allRes_length n1
      have ea : allRes K L p.mod = addrsFrom K L [] p.mod.imps := by
        rcases allRes_cases K L p.mod with ⟨q, _⟩ | ⟨_, q, _⟩ | ⟨_, _, q⟩
        · exact absurd hf q
        · exact absurd hc q
        · exact q
      have ea' : allRes K L' p'.mod = addrsFrom K L' [] p.mod.imps := by
        rcases allRes_cases K L' p'.mod with ⟨q, _⟩ | ⟨_, q, _⟩ | ⟨_, _, q⟩
        · exact absurd hf' q
        · rw [e] at q; exact absurd hc q
        · rw [q, e]
      obtain ⟨q1, q2⟩ := addrs_mods (K := K) hm p.mod.imps [] [] ⟨rfl, fun j x y hx _ => by simp at hx⟩
      have qb := addrs_bd hf' p.mod.imps [] (fun x hx => by simp at hx)
      have f1 := okPl_first hok p' hp'
      have hz := szM_bd hc
      rw [ea] at n1 n2 hal
      rw [← ea'] at q1 q2 qb
      have n1' : (allRes K L' p'.mod).2 = 0 := by rw [q1]; exact n1
      have hsy : ∀ q ∈ p.mod.pats, q.sym < (addrsFrom K L [] p.mod.imps).1.length := fun q hq => by
        have := (pats_of hc q hq).2
        rw [hal]
        omega
      have n2' := patd_even (bg := 4096 + p.first * 64) (bg' := 4096 + p'.first * 64) q2 (by omega) qb (by omega) p.mod.pats p.mod.text p'.mod.text (by rw [e]) (by omega) hsy n2
      unfold imgRes
      rw [if_neg (by omega)]
      have n2'' : (patd (allRes K L' p'.mod).1 (4096 + p'.first * 64) p'.mod.text p'.mod.pats).2 = 0 := by
        have : p'.mod.pats = p.mod.pats := by rw [e]
        rw [this]
        exact n2'
      rw [if_neg (by omega)]
  unfold chkRg
  rw [if_neg (by omega), if_neg (by omega)]
  exact h3'
/-- Behind a step all is right. -/
theorem step_right {K : Ker} {L L' : List Plc} (h : chkRg K L = 0) (hs : stepFrom 0 L = some L') : chkRg K L' = 0 :=
  moved_right h (step_some hs).2.2 (step_ok (chkReg_zero.1 (chkLink_zero (chkRg_zero h).1).2.1).2.2 hs)

end Go.Proofs.YtlpnfbpgnfappaaGreat

/- The document's way to the runs: sector by sector. -/
namespace Go.Proofs.YtlpnfbpgnfappaaGreat
open Go.RowKit Go.PlainAid

def bump (l : List (Int × Int)) : List (Int × Int) := l.dropLast ++ (match l.getLast? with | none => [] | some r => [(r.1, r.2 + 1)])
def scanStep (u : Nat → Bool) (i : Nat) (acc : List (Int × Int)) : List (Int × Int) :=
  if u i = true then acc else if 0 < i ∧ u (i - 1) = false then bump acc else acc ++ [((i : Int), 1)]
def scan (u : Nat → Bool) : Nat → List (Int × Int)
  | 0 => []
  | i + 1 => scanStep u i (scan u i)
theorem bump_snoc (l : List (Int × Int)) (a b : Int) : bump (l ++ [(a, b)]) = l ++ [(a, b + 1)] := by
  unfold bump
  simp
theorem scan_used {u : Nat → Bool} {a : Nat} : ∀ {n : Nat}, (∀ j, a ≤ j → j < a + n → u j = true) → scan u (a + n) = scan u a
  | 0, _ => rfl
  | n + 1, h => by
    show scanStep u (a + n) (scan u (a + n)) = _
    unfold scanStep
    rw [if_pos (h _ (by omega) (by omega)), scan_used (fun j h1 h2 => h j h1 (by omega))]
theorem scan_free {u : Nat → Bool} {a : Nat} (h0 : a = 0 ∨ u (a - 1) = true) : ∀ {n : Nat}, (∀ j, a ≤ j → j < a + (n + 1) → u j = false) → scan u (a + (n + 1)) = scan u a ++ [((a : Int), (n : Int) + 1)]
  | 0, h => by
    show scanStep u a (scan u a) = _
    unfold scanStep
    rw [if_neg (by rw [h a (Nat.le_refl _) (by omega)]; decide), if_neg ?_]
    · simp
    · rintro ⟨h1, h2⟩
      rcases h0 with h0 | h0
      · omega
      · rw [h0] at h2; exact absurd h2 (by decide)
  | n + 1, h => by
    show scanStep u (a + (n + 1)) (scan u (a + (n + 1))) = _
    unfold scanStep
    rw [if_neg (by rw [h (a + (n + 1)) (by omega) (by omega)]; decide), if_pos ⟨by omega, h _ (by omega) (by omega)⟩, scan_free h0 (fun j h1 h2 => h j h1 (by omega)), bump_snoc]
    simp
def usedBy (l : List Plc) (j : Nat) : Bool := l.any fun p => decide (p.first ≤ (j : Int)) && decide ((j : Int) < p.first + szM p.mod)
theorem usedBy_false {l : List Plc} {j : Nat} : usedBy l j = false ↔ ∀ p ∈ l, ¬ (p.first ≤ (j : Int) ∧ (j : Int) < p.first + szM p.mod) := by
  unfold usedBy
  rw [List.any_eq_false]
  simp
theorem usedBy_true {l : List Plc} {j : Nat} : usedBy l j = true ↔ ∃ p ∈ l, p.first ≤ (j : Int) ∧ (j : Int) < p.first + szM p.mod := by
  unfold usedBy
  rw [List.any_eq_true]
  simp
theorem scan_gap {u : Nat → Bool} {a b : Nat} (hab : a ≤ b) (h0 : a = 0 ∨ u (a - 1) = true) (h : ∀ j, a ≤ j → j < b → u j = false) : scan u b = scan u a ++ gapOf a b := by
  by_cases hb : a = b
  · subst hb
    simp [gapOf]
  · obtain ⟨n, rfl⟩ : ∃ n, b = a + (n + 1) := ⟨b - a - 1, by omega⟩
    rw [scan_free h0 h]
    unfold gapOf
    rw [if_neg (by omega)]
    simp
    omega
theorem scan_runs {u : Nat → Bool} : ∀ {l : List Plc} {e : Nat}, okPl e l → (e = 0 ∨ u (e - 1) = true) → (∀ j, e ≤ j → j < 16 → u j = usedBy l j) → scan u 16 = scan u e ++ runsFrom e l
  | [], e, h, h0, hu => by
    have h : (e : Int) ≤ 16 := h
    exact scan_gap (by omega) h0 (fun j h1 h2 => by rw [hu j h1 h2]; rfl)
  | p :: l, e, h, h0, hu => by
    obtain ⟨h1, h2, h3, h4⟩ := h
    obtain ⟨f, hf⟩ : ∃ f : Nat, p.first = f := ⟨p.first.toNat, by omega⟩
    rw [hf] at h1 h3 h4
    have hl := okPl_first h4
    have g1 : scan u f = scan u e ++ gapOf e f := by
      refine scan_gap (by omega) h0 fun j k1 k2 => ?_
      rw [hu j k1 (by omega), usedBy_false]
      intro q hq
      rcases List.mem_cons.1 hq with rfl | hq
      · omega
      · have := hl q hq
        omega
    have hus : ∀ j, f ≤ j → j < f + szM p.mod → u j = true := by
      intro j k1 k2
      rw [hu j (by omega) (by omega), usedBy_true]
      exact ⟨p, by simp, by omega, by omega⟩
    have g2 : scan u (f + szM p.mod) = scan u f := scan_used hus
    have e1 : ((f + szM p.mod : Nat) : Int) = p.first + szM p.mod := by rw [hf]; omega
    have g3 := scan_runs (u := u) (l := l) (e := f + szM p.mod) (by rw [e1, hf]; exact h4) (.inr (hus _ (by omega) (by omega))) (by
      intro j k1 k2
      rw [hu j (by omega) k2]
      unfold usedBy
      rw [List.any_cons]
      have : (decide (p.first ≤ (j : Int)) && decide ((j : Int) < p.first + szM p.mod)) = false := by
        simp
        omega
      rw [this, Bool.false_or])
    have g4 : runsFrom e (p :: l) = gapOf e p.first ++ runsFrom (p.first + szM p.mod) l := rfl
    rw [g3, g2, g1, e1, g4, hf, List.append_assoc]

end Go.Proofs.YtlpnfbpgnfappaaGreat
