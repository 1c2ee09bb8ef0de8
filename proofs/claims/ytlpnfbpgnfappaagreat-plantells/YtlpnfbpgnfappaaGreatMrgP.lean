/- Texts that are laid together. -/
import Derived.Test.YtlpnfbpgnfappaaGreatMrgO
import Derived.Test.YtlpnfbpgnfappaaGreatMrgM
import Derived.Test.YtlpnfbpgnfappaaGreatMrgD
import Derived.Deep.AppendLies

/- Contracts of compact's Step and Pack as registries; registryIs; what must be in any case, of compact. -/
namespace Go.Proofs.YtlpnfbpgnfappaaGreat
open Go.RowKit Go.PlainAid Go.Lib

set_option maxRecDepth 100000

theorem OwnsReg.isReg {base : Nat} {W : World} {v : Value} {K : Ker} {l : List PV} (h : OwnsReg base W v K l) (hk : K.exps.length ≤ 255) (hl : l.length ≤ 255) (hm : ∀ x ∈ l, x.mod.exps.length ≤ 255 ∧ x.mod.imps.length ≤ 255 ∧ x.mod.pats.length ≤ 255) : IsReg W.heap.size W v K l := by
  obtain ⟨ve, vl, e, o1, o2, o3⟩ := h
  exact ⟨ve, vl, e, own_rows (C := expC) (cells := Exp.cell) (sz := 2) (fun _ => rfl) expC_at o1 (by omega), own_rows (C := pvC) (cells := PV.cell) (sz := 8) (fun _ => rfl) pvC_at o2 (by omega), plc_rows o3 hm⟩

theorem IsReg.shape0 {n : Nat} {W : World} {v : Value} {K : Ker} {l : List PV} (h : IsReg n W v K l) : ∃ q j a c, v = .agg #[.int .i64 K.major, .int .i64 K.minor, .slice q K.exps.length j, .slice a l.length c] := by
  obtain ⟨ve, vl, rfl, ⟨q, j, rfl, _, _⟩, ⟨⟨a, c, rfl, _, _⟩, _⟩⟩ := h
  exact ⟨q, j, a, c, rfl⟩
theorem zero_isReg (n : Nat) (W : World) : IsReg n W (.agg #[.int .i64 0, .int .i64 0, .slice none 0 0, .slice none 0 0]) emptyK [] :=
  ⟨_, _, rfl, ⟨none, 0, rfl, by simp [emptyK], .inl rfl⟩, ⟨none, 0, rfl, by simp, .inl rfl⟩, fun x hx => by simp at hx⟩

set_option maxHeartbeats 4000000 in
theorem regIs_ok (K : Ker) (l l' : List PV) (v v' : Value) (w : World) (h1 : IsReg w.heap.size w v K l) (h2 : IsReg w.heap.size w v' K l') (he : l.map PV.plc = l'.map PV.plc) :
    Calls Tryz.prog 14 #[v, .int .i64 0, .int .i64 0, v'] w fun e w' => e = .returned (.bool true) ∧ Below w.heap.size w w' := by
  have HS : Hid (∀ W, Below w.heap.size w W → Calls Tryz.prog 26 #[v, v'] W fun e w'' => e = .returned (.bool true) ∧ Below W.heap.size W w'') := fun W hb => sameReg_yes K l l' v v' W ((h1.below hb).more hb.size) ((h2.below hb).more hb.size) he
  obtain ⟨q, j, a, c, rfl⟩ := h1.shape0
  obtain ⟨q', j', a', c', rfl⟩ := h2.shape0
  clear h1 h2 he
  generalize K.exps.length = lk at *
  generalize l.length = ll at *
  generalize l'.length = ll' at *
  have HB1 : Hid (Below w.heap.size w ((w.alloc (.cells #[.int .i64 K.major, .int .i64 K.minor, .slice q lk j, .slice a ll c] 27)).alloc (.cells #[.int .i64 K.major, .int .i64 K.minor, .slice q' lk j', .slice a' ll' c'] 27))) := ((Below.refl _ _).alloc (Nat.le_refl _) _).alloc (by simp) _
  go_enter Tryz.func14, Tryz.ntmps14
  go_wp2_with fail
  refine (HS.out _ HB1.out).mono ?_
  rintro e w2 ⟨rfl, b2⟩
  have HB2 : Hid (Below w.heap.size w w2) := HB1.out.trans (b2.mono HB1.out.size)
  clear b2 HB1 HS
  go_wp2
  go_ret
  exact ⟨rfl, HB2.out⟩

set_option maxHeartbeats 4000000 in
theorem regIs_err (K : Ker) (l' : List PV) (v v' : Value) (er : Int) (w : World) (her : er ≠ 0) (h1 : IsReg w.heap.size w v emptyK []) (h2 : IsReg w.heap.size w v' K l') :
    Calls Tryz.prog 14 #[v, .int .i64 er, .int .i64 er, v'] w fun e w' => e = .returned (.bool true) ∧ Below w.heap.size w w' := by
  have HS : Hid (∀ W, Below w.heap.size w W → Calls Tryz.prog 26 #[v, .agg #[.int .i64 0, .int .i64 0, .slice none 0 0, .slice none 0 0]] W fun e w'' => e = .returned (.bool true) ∧ Below W.heap.size W w'') := fun W hb => sameReg_yes emptyK [] [] v _ W ((h1.below hb).more hb.size) (zero_isReg _ _) rfl
  obtain ⟨q, j, a, c, rfl⟩ := h1.shape0
  obtain ⟨q', j', a', c', rfl⟩ := h2.shape0
  clear h1 h2
  generalize K.exps.length = lk at *
  generalize l'.length = ll' at *
  dsimp only [emptyK, List.length_nil] at HS ⊢
  have hne : (er != 0) = true := by simpa using her
  have hbeq : (er == er) = true := by simp
  have HB1 : Hid (Below w.heap.size w ((w.alloc (.cells #[.int .i64 0, .int .i64 0, .slice q 0 j, .slice a 0 c] 27)).alloc (.cells #[.int .i64 K.major, .int .i64 K.minor, .slice q' lk j', .slice a' ll' c'] 27))) := ((Below.refl _ _).alloc (Nat.le_refl _) _).alloc (by simp) _
  have HA1 : Hid (CellsAt ((w.alloc (.cells #[.int .i64 0, .int .i64 0, .slice q 0 j, .slice a 0 c] 27)).alloc (.cells #[.int .i64 K.major, .int .i64 K.minor, .slice q' lk j', .slice a' ll' c'] 27)) w.heap.size 27 #[.int .i64 0, .int .i64 0, .slice q 0 j, .slice a 0 c]) := (CellsAt.new _ _ _).kept (World.grownBy_alloc _ _ none) (by simp)
  have HC1 : Hid (CellsAt ((w.alloc (.cells #[.int .i64 0, .int .i64 0, .slice q 0 j, .slice a 0 c] 27)).alloc (.cells #[.int .i64 K.major, .int .i64 K.minor, .slice q' lk j', .slice a' ll' c'] 27)) (w.heap.size + 1) 27 #[.int .i64 K.major, .int .i64 K.minor, .slice q' lk j', .slice a' ll' c']) := by
    have := CellsAt.new (w.alloc (.cells #[.int .i64 0, .int .i64 0, .slice q 0 j, .slice a 0 c] 27)) 27 #[.int .i64 K.major, .int .i64 K.minor, .slice q' lk j', .slice a' ll' c']
    rw [World.size_alloc] at this
    exact this
  go_enter Tryz.func14, Tryz.ntmps14
  go_upto_region 2 with fail
  generalize ((w.alloc (.cells #[.int .i64 0, .int .i64 0, .slice q 0 j, .slice a 0 c] 27)).alloc (.cells #[.int .i64 K.major, .int .i64 K.minor, .slice q' lk j', .slice a' ll' c'] 27)) = w1 at *
  have z0 := CellsAt.cell HC1.out 0
  have z1 := CellsAt.cell HC1.out 1
  have z2 := CellsAt.cell HC1.out 2
  have z3 := CellsAt.cell HC1.out 3
  have f0 := CellsAt.frozen HC1.out 0
  have f1 := CellsAt.frozen HC1.out 1
  have f2 := CellsAt.frozen HC1.out 2
  have f3 := CellsAt.frozen HC1.out 3
  have zl := CellsAt.lt HC1.out
  simp at z0 z1 z2 z3
  have hG := sets4_grown w1 (w.heap.size + 1) (.int .i64 0) (.int .i64 0) (.slice none 0 0) (.slice none 0 0)
  have HB9 : Hid (Below w.heap.size w ((((w1.setCell ⟨w.heap.size + 1, 0, none⟩ (.int .i64 0)).setCell ⟨w.heap.size + 1, 1, none⟩ (.int .i64 0)).setCell ⟨w.heap.size + 1, 2, none⟩ (.slice none 0 0)).setCell ⟨w.heap.size + 1, 3, none⟩ (.slice none 0 0))) := HB1.out.grown hG HB1.out.size (fun q hq => by obtain rfl := Option.some.inj hq; omega)
  have HZ9 : Hid (CellsAt ((((w1.setCell ⟨w.heap.size + 1, 0, none⟩ (.int .i64 0)).setCell ⟨w.heap.size + 1, 1, none⟩ (.int .i64 0)).setCell ⟨w.heap.size + 1, 2, none⟩ (.slice none 0 0)).setCell ⟨w.heap.size + 1, 3, none⟩ (.slice none 0 0)) (w.heap.size + 1) 27 #[.int .i64 0, .int .i64 0, .slice none 0 0, .slice none 0 0]) := sets4 HC1.out _ _ _ _
  have HA9 : Hid (CellsAt ((((w1.setCell ⟨w.heap.size + 1, 0, none⟩ (.int .i64 0)).setCell ⟨w.heap.size + 1, 1, none⟩ (.int .i64 0)).setCell ⟨w.heap.size + 1, 2, none⟩ (.slice none 0 0)).setCell ⟨w.heap.size + 1, 3, none⟩ (.slice none 0 0)) w.heap.size 27 #[.int .i64 0, .int .i64 0, .slice q 0 j, .slice a 0 c]) := HA1.out.kept hG (by intro e; have := Option.some.inj e; omega)
  clear HB1 HC1 HA1 hG
  go_upto_region 3 with fail
  generalize ((((w1.setCell ⟨w.heap.size + 1, 0, none⟩ (.int .i64 0)).setCell ⟨w.heap.size + 1, 1, none⟩ (.int .i64 0)).setCell ⟨w.heap.size + 1, 2, none⟩ (.slice none 0 0)).setCell ⟨w.heap.size + 1, 3, none⟩ (.slice none 0 0)) = w4 at *
  clear z0 z1 z2 z3 f0 f1 f2 f3 zl
  have z0 := CellsAt.cell HZ9.out 0
  have z1 := CellsAt.cell HZ9.out 1
  have z2 := CellsAt.cell HZ9.out 2
  have z3 := CellsAt.cell HZ9.out 3
  have zl := CellsAt.lt HZ9.out
  have a0 := CellsAt.cell HA9.out 0
  have a1 := CellsAt.cell HA9.out 1
  have a2 := CellsAt.cell HA9.out 2
  have a3 := CellsAt.cell HA9.out 3
  have al := CellsAt.lt HA9.out
  simp at z0 z1 z2 z3 a0 a1 a2 a3
  go_wp2_with fail
  refine (HS.out _ HB9.out).mono ?_
  rintro e w5 ⟨rfl, b5⟩
  have HB5 : Hid (Below w.heap.size w w5) := HB9.out.trans (b5.mono HB9.out.size)
  clear b5 HB9 HS HZ9 HA9 z0 z1 z2 z3 zl a0 a1 a2 a3 al
  go_wp2
  go_ret
  exact ⟨rfl, HB5.out⟩

end Go.Proofs.YtlpnfbpgnfappaaGreat

/- What must be in any case, of plans: as data. -/
namespace Go.Proofs.YtlpnfbpgnfappaaGreat
open Go.RowKit Go.PlainAid Go.Lib

set_option maxRecDepth 100000

def extraM : Mod := ⟨⟨#[101, 120, 116, 114, 97]⟩, 0, 0, ⟨#[49, 50, 51, 52]⟩, [], [], []⟩
def lib9M : Mod := ⟨⟨#[108, 105, 98]⟩, 1, 9, ⟨#[97, 98, 99, 100, 101, 102, 103, 104]⟩, [⟨⟨#[102]⟩, 4⟩], [], []⟩
def inL : List Plc := [⟨extraM, 0⟩, ⟨appM, 1⟩, ⟨libM, 4⟩]
def libL : List Plc := [⟨libM, 4⟩]
def upL : List Plc := [⟨appM, 1⟩, ⟨lib9M, 4⟩]
theorem plB_i1 : instDo pairL extraM = (inL, 0) := by kernel_rfl
theorem plB_r1 : remDo pairL appN = (libL, 0) := by kernel_rfl
theorem plB_r2 : (remDo pairL libN).2 = 4 := by kernel_rfl
theorem plB_u1 : upDo pairL lib9M = (upL, 0) := by kernel_rfl
theorem plB_k1 : chkLink kernK inL = 0 := by kernel_rfl
theorem plB_k2 : chkLink kernK libL = 0 := by kernel_rfl
theorem plB_k3 : chkLink kernK upL = 0 := by kernel_rfl
theorem plB_a1 : (areaOf kernK inL).2 = 0 := by kernel_rfl
theorem plB_a2 : (areaOf kernK libL).2 = 0 := by kernel_rfl
theorem plB_a3 : (areaOf kernK upL).2 = 0 := by kernel_rfl
theorem plB_g1 : chkGraph inL = 0 := by kernel_rfl
theorem plB_g2 : chkGraph libL = 0 := by kernel_rfl
theorem plB_g3 : chkGraph upL = 0 := by kernel_rfl
def pvOf (p : Plc) : PV := ⟨p.mod, .slice none 0 0, .slice none 0 0, .slice none 0 0, p.first⟩
theorem up_name {a b : PV} (h : decide (b.mod.name.data.toList < a.mod.name.data.toList) = false) : UpName a b := by
  unfold UpName
  simpa using h
theorem plB_p1 : (ordRes [appM, extraM, libM]).2 = 0 := by kernel_rfl
theorem plB_o1 : (ordOf inL).2 = 0 := by
  have hr : [appM, extraM, libM] = risen inL := by
    have := risen_of (l := inL.map pvOf) (rs := [pvOf ⟨appM, 1⟩, pvOf ⟨extraM, 0⟩, pvOf ⟨libM, 4⟩]) (List.Perm.swap _ _ _) (by
      rw [List.pairwise_cons, List.pairwise_cons, List.pairwise_cons]
      refine ⟨fun x hx => ?_, fun x hx => ?_, fun x hx => by simp at hx, List.Pairwise.nil⟩
      · simp only [List.mem_cons, List.not_mem_nil, or_false] at hx
        rcases hx with rfl | rfl
        · exact up_name (by kernel_rfl)
        · exact up_name (by kernel_rfl)
      · simp only [List.mem_cons, List.not_mem_nil, or_false] at hx
        subst hx
        exact up_name (by kernel_rfl)) (chkGraph_zero.1 plB_g1).2.2
    exact this
  unfold ordOf
  rw [if_neg (by rw [plB_g1]; exact fun h => h rfl), ← hr]
  exact plB_p1
theorem plB_p2 : (ordRes [libM]).2 = 0 := by kernel_rfl
theorem plB_o2 : (ordOf libL).2 = 0 := by
  have hr : [libM] = risen libL := by
    have := risen_of (l := libL.map pvOf) (rs := [pvOf ⟨libM, 4⟩]) (List.Perm.refl _) (by simp) (chkGraph_zero.1 plB_g2).2.2
    exact this
  unfold ordOf
  rw [if_neg (by rw [plB_g2]; exact fun h => h rfl), ← hr]
  exact plB_p2
theorem plB_p3 : (ordRes [appM, lib9M]).2 = 0 := by kernel_rfl
theorem plB_o3 : (ordOf upL).2 = 0 := by
  have hr : [appM, lib9M] = risen upL := by
    have := risen_of (l := upL.map pvOf) (rs := [pvOf ⟨appM, 1⟩, pvOf ⟨lib9M, 4⟩]) (List.Perm.refl _) (by
      rw [List.pairwise_cons, List.pairwise_cons]
      refine ⟨fun x hx => ?_, fun x hx => by simp at hx, List.Pairwise.nil⟩
      simp only [List.mem_cons, List.not_mem_nil, or_false] at hx
      subst hx
      exact up_name (by kernel_rfl)) (chkGraph_zero.1 plB_g3).2.2
    exact this
  unfold ordOf
  rw [if_neg (by rw [plB_g3]; exact fun h => h rfl), ← hr]
  exact plB_p3
theorem plB_c1 : chkRg kernK inL = 0 := by
  unfold chkRg
  rw [plB_k1, plB_o1, if_neg (by decide), if_neg (by decide)]
  exact plB_a1
theorem plB_c2 : chkRg kernK libL = 0 := by
  unfold chkRg
  rw [plB_k2, plB_o2, if_neg (by decide), if_neg (by decide)]
  exact plB_a2
theorem plB_c3 : chkRg kernK upL = 0 := by
  unfold chkRg
  rw [plB_k3, plB_o3, if_neg (by decide), if_neg (by decide)]
  exact plB_a3
theorem plB_i : planRes kernK pairL (instDo pairL extraM) = ((kernK, inL), 0) := by
  rw [plB_i1]
  unfold planRes
  rw [if_neg (by rw [rgB_c]; decide), if_neg (by decide), if_neg (by rw [plB_c1]; decide)]
theorem plB_r : planRes kernK pairL (remDo pairL appN) = ((kernK, libL), 0) := by
  rw [plB_r1]
  unfold planRes
  rw [if_neg (by rw [rgB_c]; decide), if_neg (by decide), if_neg (by rw [plB_c2]; decide)]
theorem plB_s : planRes kernK pairL (remDo pairL libN) = ((emptyK, []), 4) := by
  unfold planRes
  rw [if_neg (by rw [rgB_c]; decide), plB_r2, if_pos (by decide)]
theorem plB_u : planRes kernK pairL (upDo pairL lib9M) = ((kernK, upL), 0) := by
  rw [plB_u1]
  unfold planRes
  rw [if_neg (by rw [rgB_c]; decide), if_neg (by decide), if_neg (by rw [plB_c3]; decide)]

end Go.Proofs.YtlpnfbpgnfappaaGreat

/- What planned answers, as registries; the module extra of the statements. -/
namespace Go.Proofs.YtlpnfbpgnfappaaGreat
open Go.RowKit Go.PlainAid Go.Lib

set_option maxRecDepth 100000

theorem planRes_reg {K : Ker} {L : List Plc} {D : List Plc × Int} {l' : List PV} {base : Nat} {W : World} {v : Value} (h1 : l'.map PV.plc = (planRes K L D).1.2) (h : OwnsReg base W v (planRes K L D).1.1 l') : IsReg W.heap.size W v (planRes K L D).1.1 l' := by
  rcases plan_cases K L D with ⟨_, e⟩ | ⟨_, _, e⟩ | ⟨_, _, _, e⟩ | ⟨_, _, hc, e⟩
  · rw [e] at h1 h ⊢
    obtain rfl : l' = [] := List.map_eq_nil_iff.1 h1
    exact h.isReg (by simp [emptyK]) (by simp) (fun x hx => by simp at hx)
  · rw [e] at h1 h ⊢
    obtain rfl : l' = [] := List.map_eq_nil_iff.1 h1
    exact h.isReg (by simp [emptyK]) (by simp) (fun x hx => by simp at hx)
  · rw [e] at h1 h ⊢
    obtain rfl : l' = [] := List.map_eq_nil_iff.1 h1
    exact h.isReg (by simp [emptyK]) (by simp) (fun x hx => by simp at hx)
  · rw [e] at h1 h ⊢
    dsimp only at h1 h ⊢
    rw [← h1] at hc
    obtain ⟨g1, g2, g3, _⟩ := rg_lens hc
    exact h.isReg g1 g2 g3
theorem extra_fits : extraM.fits := by
  refine ⟨by decide, by decide, fun e he => ?_, fun i hi => ?_⟩
  · simp [extraM] at he
  · simp [extraM] at hi
theorem lib9_fits : lib9M.fits := by
  refine ⟨by decide, by decide, fun e he => ?_, fun i hi => ?_⟩
  · simp [lib9M] at he
    subst he
    decide
  · simp [lib9M] at hi

set_option maxHeartbeats 1000000 in
theorem extra_any (w : World) : Calls Tryz.prog 57 #[] w fun e w' => e = .returned (.agg #[.string ⟨#[101, 120, 116, 114, 97]⟩, .int .i64 0, .int .i64 0, .string ⟨#[49, 50, 51, 52]⟩, .slice none 0 0, .slice none 0 0, .slice none 0 0]) ∧ Below w.heap.size w w' := by
  go_enter Tryz.func57, Tryz.ntmps57
  go_wp2
  (try simp only [Exit.inBlock, Exit.then])
  refine bodyPost_ret (results_cell_row rfl _ _ _ _ _ _ _ rfl (CellsAt.new w _ _) Tryz.underlying31 rfl (by kernel_rfl)) rfl ?_
  exact ⟨rfl, (Below.refl _ _).alloc (Nat.le_refl _) _⟩
theorem extra_isMod (n : Nat) (W : World) : IsMod n W (.agg #[.string ⟨#[101, 120, 116, 114, 97]⟩, .int .i64 0, .int .i64 0, .string ⟨#[49, 50, 51, 52]⟩, .slice none 0 0, .slice none 0 0, .slice none 0 0]) extraM :=
  ⟨_, _, _, rfl, ⟨_, _, rfl, by decide, .inl rfl⟩, ⟨_, _, rfl, by decide, .inl rfl⟩, ⟨_, _, rfl, by decide, .inl rfl⟩⟩

end Go.Proofs.YtlpnfbpgnfappaaGreat

/- What must be in any case, of compact. -/
namespace Go.Proofs.YtlpnfbpgnfappaaGreat
open Go.RowKit Go.PlainAid Go.Lib

set_option maxRecDepth 100000

end Go.Proofs.YtlpnfbpgnfappaaGreat

/- What must be in any case, of plans. Printed by genplo.py. -/
namespace Go.Proofs.YtlpnfbpgnfappaaGreat
open Go.RowKit Go.PlainAid Go.Lib

set_option maxRecDepth 100000

theorem row1_form {n : Nat} {W : World} {v : Value} {K : Ker} {l : List PV} {k : Nat} (h : IsReg n W v K l) (hl : l.length = k) : ∃ ma mi q lk j a c, v = .agg #[.int .i64 ma, .int .i64 mi, .slice q lk j, .slice a k c] := by
  obtain ⟨q, j, a, c, e⟩ := h.shape0
  exact ⟨_, _, q, _, j, a, c, by rw [e, hl]⟩
theorem rowN_form {n : Nat} {W : World} {v : Value} {K : Ker} {l : List PV} {p : Plc} {r : List Plc} (h : IsReg n W v K l) (hf : l.map PV.plc = p :: r) : ∃ ma mi q lk j b off c, v = .agg #[.int .i64 ma, .int .i64 mi, .slice q lk j, .slice (some ⟨b, off, none⟩) (r.length + 1) c] ∧ b < n ∧ W.cell? ⟨b, off, none⟩ = some (.string p.mod.name) := by
  obtain ⟨ve, vl, rfl, ⟨q, j, rfl, _, _⟩, ⟨⟨a, c, rfl, _, hc⟩, _⟩⟩ := h
  cases l with
  | nil => cases hf
  | cons x l =>
    injection hf with h1 h2
    have hl : (x :: l).length = r.length + 1 := by rw [← h2, List.length_map, List.length_cons]
    rcases hc with h | ⟨b, off, rfl, hb, hc⟩
    · cases h
    · have h0 := hc 0 x rfl 0 (by omega)
      refine ⟨_, _, _, _, _, b, off, c, by rw [hl], hb, ?_⟩
      rw [← h1]
      exact h0
theorem row2_minor {n : Nat} {W : World} {v : Value} {K : Ker} {l : List PV} {p p' : Plc} (h : IsReg n W v K l) (hf : l.map PV.plc = [p, p']) : ∃ ma mi q lk j b off c, v = .agg #[.int .i64 ma, .int .i64 mi, .slice q lk j, .slice (some ⟨b, off, none⟩) 2 c] ∧ b < n ∧ W.cell? ⟨b, off + 15, none⟩ = some (.int .i64 p'.first) ∧ W.cell? ⟨b, off + 10, none⟩ = some (.int .i64 p'.mod.minor) := by
  obtain ⟨ve, vl, rfl, ⟨q, j, rfl, _, _⟩, ⟨⟨a, c, rfl, _, hc⟩, _⟩⟩ := h
  match l, hf, hc with
  | [x, y], hf, hc =>
    injection hf with h1 h2
    injection h2 with h2 _
    rcases hc with h | ⟨b, off, rfl, hb, hc⟩
    · cases h
    · have h0 := hc 1 y rfl 7 (by omega)
      have h3 := hc 1 y rfl 2 (by omega)
      refine ⟨_, _, _, _, _, b, off, c, rfl, hb, ?_, ?_⟩
      · rw [← h2]
        have e : off + 1 * 8 + 7 = off + 15 := by omega
        rw [e] at h0
        exact h0
      · rw [← h2]
        have e : off + 1 * 8 + 2 = off + 10 := by omega
        rw [e] at h3
        exact h3

theorem zreg_no {W : World} {B k : Nat} {t : TypeId} (h : CellsAt W B t #[.int .i64 0, .int .i64 0, .slice none 0 0, .slice none 0 0]) (hk : 4 ≤ k) : W.cell? ⟨B, k, none⟩ = none := by
  rw [h.cell k]
  exact Array.getElem?_eq_none (by simpa using hk)

set_option maxHeartbeats 16000000 in
theorem planBegun_any (w : World) : Calls Tryz.prog 13 #[] w fun e w' => e = .returned (.bool true) ∧ Below w.heap.size w w' := by
  have HIN : Hid (∀ l v vm W, l.map PV.plc = pairL → IsReg W.heap.size W v kernK l → IsMod W.heap.size W vm extraM → Calls Tryz.prog 6 #[v, vm] W fun e w' => (∃ ma mi q lk j b off c, e = .returned (.tuple #[.agg #[.int .i64 ma, .int .i64 mi, .slice q lk j, .slice (some ⟨b, off, none⟩) 3 c], .int .i64 0]) ∧ b < w'.heap.size ∧ w'.cell? ⟨b, off, none⟩ = some (.string ⟨#[101, 120, 116, 114, 97]⟩)) ∧ Below W.heap.size W w') := fun l v vm W hl hR hM => by
    refine (plInstall_any kernK l v extraM vm W hR kern_fits (pair_fits hl) hM extra_fits).mono ?_
    rintro e w' ⟨⟨v', l', rfl, hp, _, ho⟩, hb⟩
    have hi := planRes_reg hp ho
    rw [hl, plB_i] at hp hi ⊢
    obtain ⟨ma, mi, q, lk, j, b, off, c, rfl, h1, h2⟩ := rowN_form hi hp
    exact ⟨⟨ma, mi, q, lk, j, b, off, c, rfl, h1, h2⟩, hb⟩
  have HRA : Hid (∀ l v W, l.map PV.plc = pairL → IsReg W.heap.size W v kernK l → Calls Tryz.prog 7 #[v, .string ⟨#[97, 112, 112]⟩] W fun e w' => (∃ ma mi q lk j a c, e = .returned (.tuple #[.agg #[.int .i64 ma, .int .i64 mi, .slice q lk j, .slice a 1 c], .int .i64 0])) ∧ Below W.heap.size W w') := fun l v W hl hR => by
    refine (plRemove_any kernK l v appN W hR kern_fits (pair_fits hl)).mono ?_
    rintro e w' ⟨⟨v', l', rfl, hp, _, ho⟩, hb⟩
    have hi := planRes_reg hp ho
    rw [hl, plB_r] at hp hi ⊢
    have hln : l'.length = 1 := by have := congrArg List.length hp; rw [List.length_map] at this; exact this
    obtain ⟨ma, mi, q, lk, j, a, c, rfl⟩ := row1_form hi hln
    exact ⟨⟨ma, mi, q, lk, j, a, c, rfl⟩, hb⟩
  have HRL : Hid (∀ l v W, l.map PV.plc = pairL → IsReg W.heap.size W v kernK l → Calls Tryz.prog 7 #[v, .string ⟨#[108, 105, 98]⟩] W fun e w' => (∃ ma mi q lk j a la c, e = .returned (.tuple #[.agg #[.int .i64 ma, .int .i64 mi, .slice q lk j, .slice a la c], .int .i64 4])) ∧ Below W.heap.size W w') := fun l v W hl hR => by
    refine (plRemove_any kernK l v libN W hR kern_fits (pair_fits hl)).mono ?_
    rintro e w' ⟨⟨v', l', rfl, hp, _, ho⟩, hb⟩
    have hi := planRes_reg hp ho
    rw [hl, plB_s] at hp hi ⊢
    obtain ⟨ma, mi, q, lk, j, a, c, rfl⟩ := row1_form hi rfl
    exact ⟨⟨ma, mi, q, lk, j, a, _, c, rfl⟩, hb⟩
  have HUP : Hid (∀ l v vm W, l.map PV.plc = pairL → IsReg W.heap.size W v kernK l → IsMod W.heap.size W vm lib9M → Calls Tryz.prog 8 #[v, vm] W fun e w' => (∃ ma mi q lk j b off c, e = .returned (.tuple #[.agg #[.int .i64 ma, .int .i64 mi, .slice q lk j, .slice (some ⟨b, off, none⟩) 2 c], .int .i64 0]) ∧ b < w'.heap.size ∧ w'.cell? ⟨b, off + 15, none⟩ = some (.int .i64 4) ∧ w'.cell? ⟨b, off + 10, none⟩ = some (.int .i64 9)) ∧ Below W.heap.size W w') := fun l v vm W hl hR hM => by
    refine (plUpgrade_any kernK l v lib9M vm W hR kern_fits (pair_fits hl) hM lib9_fits).mono ?_
    rintro e w' ⟨⟨v', l', rfl, hp, _, ho⟩, hb⟩
    have hi := planRes_reg hp ho
    rw [hl, plB_u] at hp hi ⊢
    obtain ⟨ma, mi, q, lk, j, b, off, c, rfl, h1, h2, h3⟩ := row2_minor hi hp
    exact ⟨⟨ma, mi, q, lk, j, b, off, c, rfl, h1, h2, h3⟩, hb⟩
  have HB0 : Hid (Below w.heap.size w w) := Below.refl _ _
  go_enter Tryz.func13, Tryz.ntmps13
  go_wp2_with fail
  refine (reg_any _).mono ?_
  rintro e w1 ⟨v1, l1, rfl, hl1, hR1, b1⟩
  have HB1 : Hid (Below w.heap.size w w1) := HB0.out.trans (b1.mono HB0.out.size)
  clear HB0
  clear b1
  go_wp2_with fail
  refine (extra_any _).mono ?_
  rintro e w2 ⟨rfl, b2⟩
  replace hR1 := (hR1.below b2).more b2.size
  have HB2 : Hid (Below w.heap.size w w2) := HB1.out.trans (b2.mono HB1.out.size)
  clear HB1
  clear b2
  go_wp2_with fail
  refine (HIN.out l1 v1 _ _ hl1 hR1 (extra_isMod _ _)).mono ?_
  rintro e w3 ⟨⟨ma, mi, q, lk, j, b, off, c, rfl, hb1, h0⟩, b3⟩
  have HB3 : Hid (Below w.heap.size w w3) := HB2.out.trans (b3.mono HB2.out.size)
  clear HB2
  have HF0 : Hid (w3.cell? ⟨b, off, none⟩ = some (.string ⟨#[101, 120, 116, 114, 97]⟩) ∧ (⟨b, off, none⟩ : Addr).block < w3.heap.size) := ⟨h0, hb1⟩
  clear b3 HIN hl1 hR1 h0 hb1
  have ba : Below w3.heap.size w3 (w3.alloc (.cells #[.int .i64 ma, .int .i64 mi, .slice q lk j, .slice (some ⟨b, off, none⟩) 3 c] 27)) := (Below.refl _ _).alloc (Nat.le_refl _) _
  have olw_gA : w.heap.size ≤ w3.heap.size := HB3.out.size
  have HB4 : Hid (Below w.heap.size w (w3.alloc (.cells #[.int .i64 ma, .int .i64 mi, .slice q lk j, .slice (some ⟨b, off, none⟩) 3 c] 27))) := HB3.out.trans (ba.mono HB3.out.size)
  have HF4_0 : Hid ((w3.alloc (.cells #[.int .i64 ma, .int .i64 mi, .slice q lk j, .slice (some ⟨b, off, none⟩) 3 c] 27)).cell? ⟨b, off, none⟩ = some (.string ⟨#[101, 120, 116, 114, 97]⟩) ∧ (⟨b, off, none⟩ : Addr).block < (w3.alloc (.cells #[.int .i64 ma, .int .i64 mi, .slice q lk j, .slice (some ⟨b, off, none⟩) 3 c] 27)).heap.size) := ⟨(ba.cell (p := ⟨b, off, none⟩) HF0.out.2).trans HF0.out.1, Nat.lt_of_lt_of_le HF0.out.2 ba.size⟩
  clear HB3 HF0
  clear ba
  have HC5 : Hid (CellsAt (w3.alloc (.cells #[.int .i64 ma, .int .i64 mi, .slice q lk j, .slice (some ⟨b, off, none⟩) 3 c] 27)) w3.heap.size 27 #[.int .i64 ma, .int .i64 mi, .slice q lk j, .slice (some ⟨b, off, none⟩) 3 c]) := CellsAt.new _ _ _
  go_upto_region 2 with fail
  generalize (w3.alloc (.cells #[.int .i64 ma, .int .i64 mi, .slice q lk j, .slice (some ⟨b, off, none⟩) 3 c] 27)) = w4 at *
  generalize w3.heap.size = gA at *
  go_wp2_with fail
  refine (reg_any _).mono ?_
  rintro e w5 ⟨v2, l2, rfl, hl2, hR2, b2⟩
  have HB6 : Hid (Below w.heap.size w w5) := HB4.out.trans (b2.mono HB4.out.size)
  have HC6_0 : Hid (CellsAt w5 gA 27 #[.int .i64 ma, .int .i64 mi, .slice q lk j, .slice (some ⟨b, off, none⟩) 3 c]) := HC5.out.below b2 HC5.out.lt
  have HF6_0 : Hid (w5.cell? ⟨b, off, none⟩ = some (.string ⟨#[101, 120, 116, 114, 97]⟩) ∧ (⟨b, off, none⟩ : Addr).block < w5.heap.size) := ⟨(b2.cell (p := ⟨b, off, none⟩) HF4_0.out.2).trans HF4_0.out.1, Nat.lt_of_lt_of_le HF4_0.out.2 b2.size⟩
  clear HB4 HC5 HF4_0
  clear b2
  go_wp2_with fail
  refine (HRA.out l2 v2 _ hl2 hR2).mono ?_
  rintro e w6 ⟨⟨mb, nb, qb, kb, jb, xb, cb, rfl⟩, b6⟩
  have HB7 : Hid (Below w.heap.size w w6) := HB6.out.trans (b6.mono HB6.out.size)
  have HC7_0 : Hid (CellsAt w6 gA 27 #[.int .i64 ma, .int .i64 mi, .slice q lk j, .slice (some ⟨b, off, none⟩) 3 c]) := HC6_0.out.below b6 HC6_0.out.lt
  have HF7_0 : Hid (w6.cell? ⟨b, off, none⟩ = some (.string ⟨#[101, 120, 116, 114, 97]⟩) ∧ (⟨b, off, none⟩ : Addr).block < w6.heap.size) := ⟨(b6.cell (p := ⟨b, off, none⟩) HF6_0.out.2).trans HF6_0.out.1, Nat.lt_of_lt_of_le HF6_0.out.2 b6.size⟩
  clear HB6 HC6_0 HF6_0
  clear b6 HRA hl2 hR2
  have ba : Below w6.heap.size w6 (w6.alloc (.cells #[.int .i64 mb, .int .i64 nb, .slice qb kb jb, .slice xb 1 cb] 27)) := (Below.refl _ _).alloc (Nat.le_refl _) _
  have ol_gA_gB : gA < w6.heap.size := CellsAt.lt HC7_0.out
  have olw_gB : w.heap.size ≤ w6.heap.size := HB7.out.size
  have HB8 : Hid (Below w.heap.size w (w6.alloc (.cells #[.int .i64 mb, .int .i64 nb, .slice qb kb jb, .slice xb 1 cb] 27))) := HB7.out.trans (ba.mono HB7.out.size)
  have HC8_0 : Hid (CellsAt (w6.alloc (.cells #[.int .i64 mb, .int .i64 nb, .slice qb kb jb, .slice xb 1 cb] 27)) gA 27 #[.int .i64 ma, .int .i64 mi, .slice q lk j, .slice (some ⟨b, off, none⟩) 3 c]) := HC7_0.out.below ba HC7_0.out.lt
  have HF8_0 : Hid ((w6.alloc (.cells #[.int .i64 mb, .int .i64 nb, .slice qb kb jb, .slice xb 1 cb] 27)).cell? ⟨b, off, none⟩ = some (.string ⟨#[101, 120, 116, 114, 97]⟩) ∧ (⟨b, off, none⟩ : Addr).block < (w6.alloc (.cells #[.int .i64 mb, .int .i64 nb, .slice qb kb jb, .slice xb 1 cb] 27)).heap.size) := ⟨(ba.cell (p := ⟨b, off, none⟩) HF7_0.out.2).trans HF7_0.out.1, Nat.lt_of_lt_of_le HF7_0.out.2 ba.size⟩
  clear HB7 HC7_0 HF7_0
  clear ba
  have HC9 : Hid (CellsAt (w6.alloc (.cells #[.int .i64 mb, .int .i64 nb, .slice qb kb jb, .slice xb 1 cb] 27)) w6.heap.size 27 #[.int .i64 mb, .int .i64 nb, .slice qb kb jb, .slice xb 1 cb]) := CellsAt.new _ _ _
  go_upto_region 3 with fail
  generalize (w6.alloc (.cells #[.int .i64 mb, .int .i64 nb, .slice qb kb jb, .slice xb 1 cb] 27)) = w7 at *
  generalize w6.heap.size = gB at *
  go_wp2_with fail
  refine (reg_any _).mono ?_
  rintro e w8 ⟨v3, l3, rfl, hl3, hR3, b3⟩
  have HB10 : Hid (Below w.heap.size w w8) := HB8.out.trans (b3.mono HB8.out.size)
  have HC10_0 : Hid (CellsAt w8 gA 27 #[.int .i64 ma, .int .i64 mi, .slice q lk j, .slice (some ⟨b, off, none⟩) 3 c]) := HC8_0.out.below b3 HC8_0.out.lt
  have HC10_1 : Hid (CellsAt w8 gB 27 #[.int .i64 mb, .int .i64 nb, .slice qb kb jb, .slice xb 1 cb]) := HC9.out.below b3 HC9.out.lt
  have HF10_0 : Hid (w8.cell? ⟨b, off, none⟩ = some (.string ⟨#[101, 120, 116, 114, 97]⟩) ∧ (⟨b, off, none⟩ : Addr).block < w8.heap.size) := ⟨(b3.cell (p := ⟨b, off, none⟩) HF8_0.out.2).trans HF8_0.out.1, Nat.lt_of_lt_of_le HF8_0.out.2 b3.size⟩
  clear HB8 HC8_0 HC9 HF8_0
  clear b3
  go_wp2_with fail
  refine (HRL.out l3 v3 _ hl3 hR3).mono ?_
  rintro e w9 ⟨⟨ms, ns, qs, ks, js, xs, ls, cs, rfl⟩, b9⟩
  have HB11 : Hid (Below w.heap.size w w9) := HB10.out.trans (b9.mono HB10.out.size)
  have HC11_0 : Hid (CellsAt w9 gA 27 #[.int .i64 ma, .int .i64 mi, .slice q lk j, .slice (some ⟨b, off, none⟩) 3 c]) := HC10_0.out.below b9 HC10_0.out.lt
  have HC11_1 : Hid (CellsAt w9 gB 27 #[.int .i64 mb, .int .i64 nb, .slice qb kb jb, .slice xb 1 cb]) := HC10_1.out.below b9 HC10_1.out.lt
  have HF11_0 : Hid (w9.cell? ⟨b, off, none⟩ = some (.string ⟨#[101, 120, 116, 114, 97]⟩) ∧ (⟨b, off, none⟩ : Addr).block < w9.heap.size) := ⟨(b9.cell (p := ⟨b, off, none⟩) HF10_0.out.2).trans HF10_0.out.1, Nat.lt_of_lt_of_le HF10_0.out.2 b9.size⟩
  clear HB10 HC10_0 HC10_1 HF10_0
  clear b9 HRL hl3 hR3
  have ba : Below w9.heap.size w9 (w9.alloc (.cells #[.int .i64 ms, .int .i64 ns, .slice qs ks js, .slice xs ls cs] 27)) := (Below.refl _ _).alloc (Nat.le_refl _) _
  have ol_gA_gS : gA < w9.heap.size := CellsAt.lt HC11_0.out
  have ol_gB_gS : gB < w9.heap.size := CellsAt.lt HC11_1.out
  have olw_gS : w.heap.size ≤ w9.heap.size := HB11.out.size
  have HB12 : Hid (Below w.heap.size w (w9.alloc (.cells #[.int .i64 ms, .int .i64 ns, .slice qs ks js, .slice xs ls cs] 27))) := HB11.out.trans (ba.mono HB11.out.size)
  have HC12_0 : Hid (CellsAt (w9.alloc (.cells #[.int .i64 ms, .int .i64 ns, .slice qs ks js, .slice xs ls cs] 27)) gA 27 #[.int .i64 ma, .int .i64 mi, .slice q lk j, .slice (some ⟨b, off, none⟩) 3 c]) := HC11_0.out.below ba HC11_0.out.lt
  have HC12_1 : Hid (CellsAt (w9.alloc (.cells #[.int .i64 ms, .int .i64 ns, .slice qs ks js, .slice xs ls cs] 27)) gB 27 #[.int .i64 mb, .int .i64 nb, .slice qb kb jb, .slice xb 1 cb]) := HC11_1.out.below ba HC11_1.out.lt
  have HF12_0 : Hid ((w9.alloc (.cells #[.int .i64 ms, .int .i64 ns, .slice qs ks js, .slice xs ls cs] 27)).cell? ⟨b, off, none⟩ = some (.string ⟨#[101, 120, 116, 114, 97]⟩) ∧ (⟨b, off, none⟩ : Addr).block < (w9.alloc (.cells #[.int .i64 ms, .int .i64 ns, .slice qs ks js, .slice xs ls cs] 27)).heap.size) := ⟨(ba.cell (p := ⟨b, off, none⟩) HF11_0.out.2).trans HF11_0.out.1, Nat.lt_of_lt_of_le HF11_0.out.2 ba.size⟩
  clear HB11 HC11_0 HC11_1 HF11_0
  clear ba
  have HC13 : Hid (CellsAt (w9.alloc (.cells #[.int .i64 ms, .int .i64 ns, .slice qs ks js, .slice xs ls cs] 27)) w9.heap.size 27 #[.int .i64 ms, .int .i64 ns, .slice qs ks js, .slice xs ls cs]) := CellsAt.new _ _ _
  go_upto_region 4 with fail
  generalize (w9.alloc (.cells #[.int .i64 ms, .int .i64 ns, .slice qs ks js, .slice xs ls cs] 27)) = w10 at *
  generalize w9.heap.size = gS at *
  go_wp2_with fail
  refine (lib_any _).mono ?_
  rintro e w11 ⟨le, lke, rfl, hM, b11⟩
  have HB14 : Hid (Below w.heap.size w w11) := HB12.out.trans (b11.mono HB12.out.size)
  have HC14_0 : Hid (CellsAt w11 gA 27 #[.int .i64 ma, .int .i64 mi, .slice q lk j, .slice (some ⟨b, off, none⟩) 3 c]) := HC12_0.out.below b11 HC12_0.out.lt
  have HC14_1 : Hid (CellsAt w11 gB 27 #[.int .i64 mb, .int .i64 nb, .slice qb kb jb, .slice xb 1 cb]) := HC12_1.out.below b11 HC12_1.out.lt
  have HC14_2 : Hid (CellsAt w11 gS 27 #[.int .i64 ms, .int .i64 ns, .slice qs ks js, .slice xs ls cs]) := HC13.out.below b11 HC13.out.lt
  have HF14_0 : Hid (w11.cell? ⟨b, off, none⟩ = some (.string ⟨#[101, 120, 116, 114, 97]⟩) ∧ (⟨b, off, none⟩ : Addr).block < w11.heap.size) := ⟨(b11.cell (p := ⟨b, off, none⟩) HF12_0.out.2).trans HF12_0.out.1, Nat.lt_of_lt_of_le HF12_0.out.2 b11.size⟩
  clear HB12 HC12_0 HC12_1 HC13 HF12_0
  have HM11 : Hid (IsMod w11.heap.size w11 (.agg #[.string ⟨#[108, 105, 98]⟩, .int .i64 1, .int .i64 2, .string ⟨#[97, 98, 99, 100, 101, 102, 103, 104]⟩, .slice le 1 lke, .slice none 0 0, .slice none 0 0]) libM) := hM
  clear b11 hM
  have ba : Below w11.heap.size w11 (w11.alloc (.cells #[.string ⟨#[108, 105, 98]⟩, .int .i64 1, .int .i64 9, .string ⟨#[97, 98, 99, 100, 101, 102, 103, 104]⟩, .slice le 1 lke, .slice none 0 0, .slice none 0 0] 31)) := (Below.refl _ _).alloc (Nat.le_refl _) _
  have ol_gA_gM : gA < w11.heap.size := CellsAt.lt HC14_0.out
  have ol_gB_gM : gB < w11.heap.size := CellsAt.lt HC14_1.out
  have ol_gS_gM : gS < w11.heap.size := CellsAt.lt HC14_2.out
  have olw_gM : w.heap.size ≤ w11.heap.size := HB14.out.size
  have HB15 : Hid (Below w.heap.size w (w11.alloc (.cells #[.string ⟨#[108, 105, 98]⟩, .int .i64 1, .int .i64 9, .string ⟨#[97, 98, 99, 100, 101, 102, 103, 104]⟩, .slice le 1 lke, .slice none 0 0, .slice none 0 0] 31))) := HB14.out.trans (ba.mono HB14.out.size)
  have HC15_0 : Hid (CellsAt (w11.alloc (.cells #[.string ⟨#[108, 105, 98]⟩, .int .i64 1, .int .i64 9, .string ⟨#[97, 98, 99, 100, 101, 102, 103, 104]⟩, .slice le 1 lke, .slice none 0 0, .slice none 0 0] 31)) gA 27 #[.int .i64 ma, .int .i64 mi, .slice q lk j, .slice (some ⟨b, off, none⟩) 3 c]) := HC14_0.out.below ba HC14_0.out.lt
  have HC15_1 : Hid (CellsAt (w11.alloc (.cells #[.string ⟨#[108, 105, 98]⟩, .int .i64 1, .int .i64 9, .string ⟨#[97, 98, 99, 100, 101, 102, 103, 104]⟩, .slice le 1 lke, .slice none 0 0, .slice none 0 0] 31)) gB 27 #[.int .i64 mb, .int .i64 nb, .slice qb kb jb, .slice xb 1 cb]) := HC14_1.out.below ba HC14_1.out.lt
  have HC15_2 : Hid (CellsAt (w11.alloc (.cells #[.string ⟨#[108, 105, 98]⟩, .int .i64 1, .int .i64 9, .string ⟨#[97, 98, 99, 100, 101, 102, 103, 104]⟩, .slice le 1 lke, .slice none 0 0, .slice none 0 0] 31)) gS 27 #[.int .i64 ms, .int .i64 ns, .slice qs ks js, .slice xs ls cs]) := HC14_2.out.below ba HC14_2.out.lt
  have HF15_0 : Hid ((w11.alloc (.cells #[.string ⟨#[108, 105, 98]⟩, .int .i64 1, .int .i64 9, .string ⟨#[97, 98, 99, 100, 101, 102, 103, 104]⟩, .slice le 1 lke, .slice none 0 0, .slice none 0 0] 31)).cell? ⟨b, off, none⟩ = some (.string ⟨#[101, 120, 116, 114, 97]⟩) ∧ (⟨b, off, none⟩ : Addr).block < (w11.alloc (.cells #[.string ⟨#[108, 105, 98]⟩, .int .i64 1, .int .i64 9, .string ⟨#[97, 98, 99, 100, 101, 102, 103, 104]⟩, .slice le 1 lke, .slice none 0 0, .slice none 0 0] 31)).heap.size) := ⟨(ba.cell (p := ⟨b, off, none⟩) HF14_0.out.2).trans HF14_0.out.1, Nat.lt_of_lt_of_le HF14_0.out.2 ba.size⟩
  clear HB14 HC14_0 HC14_1 HC14_2 HF14_0
  clear ba
  have HC16 : Hid (CellsAt (w11.alloc (.cells #[.string ⟨#[108, 105, 98]⟩, .int .i64 1, .int .i64 9, .string ⟨#[97, 98, 99, 100, 101, 102, 103, 104]⟩, .slice le 1 lke, .slice none 0 0, .slice none 0 0] 31)) w11.heap.size 31 #[.string ⟨#[108, 105, 98]⟩, .int .i64 1, .int .i64 9, .string ⟨#[97, 98, 99, 100, 101, 102, 103, 104]⟩, .slice le 1 lke, .slice none 0 0, .slice none 0 0]) := CellsAt.new _ _ _
  have HM12 : Hid (IsMod (w11.alloc (.cells #[.string ⟨#[108, 105, 98]⟩, .int .i64 1, .int .i64 9, .string ⟨#[97, 98, 99, 100, 101, 102, 103, 104]⟩, .slice le 1 lke, .slice none 0 0, .slice none 0 0] 31)).heap.size (w11.alloc (.cells #[.string ⟨#[108, 105, 98]⟩, .int .i64 1, .int .i64 9, .string ⟨#[97, 98, 99, 100, 101, 102, 103, 104]⟩, .slice le 1 lke, .slice none 0 0, .slice none 0 0] 31)) (.agg #[.string ⟨#[108, 105, 98]⟩, .int .i64 1, .int .i64 9, .string ⟨#[97, 98, 99, 100, 101, 102, 103, 104]⟩, .slice le 1 lke, .slice none 0 0, .slice none 0 0]) lib9M) := by
    have hbm : Below w11.heap.size w11 (w11.alloc (.cells #[.string ⟨#[108, 105, 98]⟩, .int .i64 1, .int .i64 9, .string ⟨#[97, 98, 99, 100, 101, 102, 103, 104]⟩, .slice le 1 lke, .slice none 0 0, .slice none 0 0] 31)) := (Below.refl _ _).alloc (Nat.le_refl _) _
    obtain ⟨me, mi9, mp, e, h1, h2, h3⟩ := HM11.out
    injection e with e
    have e := congrArg Array.toList e
    simp at e
    obtain ⟨-, -, -, -, rfl, rfl, rfl⟩ := e
    exact ⟨_, _, _, rfl, (h1.below hbm).more hbm.size, ⟨_, _, rfl, by decide, .inl rfl⟩, ⟨_, _, rfl, by decide, .inl rfl⟩⟩
  clear HM11
  go_upto_region 6 with fail
  refine wp_region_noPanic ?_
  refine wp_region_L (S := fun w' => CellsAt w' w11.heap.size 31 #[.string ⟨#[108, 105, 98]⟩, .int .i64 1, .int .i64 9, .string ⟨#[97, 98, 99, 100, 101, 102, 103, 104]⟩, .slice le 1 lke, .slice none 0 0, .slice none 0 0]) (x := 8) (by kernel_rfl) ?_
  have HBd : Hid (Below w.heap.size w (w11.alloc (.cells #[.string ⟨#[108, 105, 98]⟩, .int .i64 1, .int .i64 9, .string ⟨#[97, 98, 99, 100, 101, 102, 103, 104]⟩, .slice le 1 lke, .slice none 0 0, .slice none 0 0] 31)).drew) := HB15.out.drew
  have HCd_0 : Hid (CellsAt (w11.alloc (.cells #[.string ⟨#[108, 105, 98]⟩, .int .i64 1, .int .i64 9, .string ⟨#[97, 98, 99, 100, 101, 102, 103, 104]⟩, .slice le 1 lke, .slice none 0 0, .slice none 0 0] 31)).drew gA 27 #[.int .i64 ma, .int .i64 mi, .slice q lk j, .slice (some ⟨b, off, none⟩) 3 c]) := (HC15_0.out : CellsAt (w11.alloc (.cells #[.string ⟨#[108, 105, 98]⟩, .int .i64 1, .int .i64 9, .string ⟨#[97, 98, 99, 100, 101, 102, 103, 104]⟩, .slice le 1 lke, .slice none 0 0, .slice none 0 0] 31)) _ _ _)
  have HCd_1 : Hid (CellsAt (w11.alloc (.cells #[.string ⟨#[108, 105, 98]⟩, .int .i64 1, .int .i64 9, .string ⟨#[97, 98, 99, 100, 101, 102, 103, 104]⟩, .slice le 1 lke, .slice none 0 0, .slice none 0 0] 31)).drew gB 27 #[.int .i64 mb, .int .i64 nb, .slice qb kb jb, .slice xb 1 cb]) := (HC15_1.out : CellsAt (w11.alloc (.cells #[.string ⟨#[108, 105, 98]⟩, .int .i64 1, .int .i64 9, .string ⟨#[97, 98, 99, 100, 101, 102, 103, 104]⟩, .slice le 1 lke, .slice none 0 0, .slice none 0 0] 31)) _ _ _)
  have HCd_2 : Hid (CellsAt (w11.alloc (.cells #[.string ⟨#[108, 105, 98]⟩, .int .i64 1, .int .i64 9, .string ⟨#[97, 98, 99, 100, 101, 102, 103, 104]⟩, .slice le 1 lke, .slice none 0 0, .slice none 0 0] 31)).drew gS 27 #[.int .i64 ms, .int .i64 ns, .slice qs ks js, .slice xs ls cs]) := (HC15_2.out : CellsAt (w11.alloc (.cells #[.string ⟨#[108, 105, 98]⟩, .int .i64 1, .int .i64 9, .string ⟨#[97, 98, 99, 100, 101, 102, 103, 104]⟩, .slice le 1 lke, .slice none 0 0, .slice none 0 0] 31)) _ _ _)
  have HCd_3 : Hid (CellsAt (w11.alloc (.cells #[.string ⟨#[108, 105, 98]⟩, .int .i64 1, .int .i64 9, .string ⟨#[97, 98, 99, 100, 101, 102, 103, 104]⟩, .slice le 1 lke, .slice none 0 0, .slice none 0 0] 31)).drew w11.heap.size 31 #[.string ⟨#[108, 105, 98]⟩, .int .i64 1, .int .i64 9, .string ⟨#[97, 98, 99, 100, 101, 102, 103, 104]⟩, .slice le 1 lke, .slice none 0 0, .slice none 0 0]) := (HC16.out : CellsAt (w11.alloc (.cells #[.string ⟨#[108, 105, 98]⟩, .int .i64 1, .int .i64 9, .string ⟨#[97, 98, 99, 100, 101, 102, 103, 104]⟩, .slice le 1 lke, .slice none 0 0, .slice none 0 0] 31)) _ _ _)
  have HFd_0 : Hid ((w11.alloc (.cells #[.string ⟨#[108, 105, 98]⟩, .int .i64 1, .int .i64 9, .string ⟨#[97, 98, 99, 100, 101, 102, 103, 104]⟩, .slice le 1 lke, .slice none 0 0, .slice none 0 0] 31)).drew.cell? ⟨b, off, none⟩ = some (.string ⟨#[101, 120, 116, 114, 97]⟩) ∧ (⟨b, off, none⟩ : Addr).block < (w11.alloc (.cells #[.string ⟨#[108, 105, 98]⟩, .int .i64 1, .int .i64 9, .string ⟨#[97, 98, 99, 100, 101, 102, 103, 104]⟩, .slice le 1 lke, .slice none 0 0, .slice none 0 0] 31)).drew.heap.size) := (HF15_0.out : (w11.alloc (.cells #[.string ⟨#[108, 105, 98]⟩, .int .i64 1, .int .i64 9, .string ⟨#[97, 98, 99, 100, 101, 102, 103, 104]⟩, .slice le 1 lke, .slice none 0 0, .slice none 0 0] 31)).cell? _ = _ ∧ _)
  have HMd : Hid (IsMod (w11.alloc (.cells #[.string ⟨#[108, 105, 98]⟩, .int .i64 1, .int .i64 9, .string ⟨#[97, 98, 99, 100, 101, 102, 103, 104]⟩, .slice le 1 lke, .slice none 0 0, .slice none 0 0] 31)).drew.heap.size (w11.alloc (.cells #[.string ⟨#[108, 105, 98]⟩, .int .i64 1, .int .i64 9, .string ⟨#[97, 98, 99, 100, 101, 102, 103, 104]⟩, .slice le 1 lke, .slice none 0 0, .slice none 0 0] 31)).drew (.agg #[.string ⟨#[108, 105, 98]⟩, .int .i64 1, .int .i64 9, .string ⟨#[97, 98, 99, 100, 101, 102, 103, 104]⟩, .slice le 1 lke, .slice none 0 0, .slice none 0 0]) lib9M) := HM12.out.below (n₀ := (w11.alloc (.cells #[.string ⟨#[108, 105, 98]⟩, .int .i64 1, .int .i64 9, .string ⟨#[97, 98, 99, 100, 101, 102, 103, 104]⟩, .slice le 1 lke, .slice none 0 0, .slice none 0 0] 31)).heap.size) ((Below.refl _ _).drew)
  clear HB15 HC15_0 HC15_1 HC15_2 HC16 HF15_0 HM12
  generalize (w11.alloc (.cells #[.string ⟨#[108, 105, 98]⟩, .int .i64 1, .int .i64 9, .string ⟨#[97, 98, 99, 100, 101, 102, 103, 104]⟩, .slice le 1 lke, .slice none 0 0, .slice none 0 0] 31)).drew = w12 at *
  generalize w11.heap.size = gM at *
  refine wpL_take 1 30 (.agg #[.string ⟨#[108, 105, 98]⟩, .int .i64 1, .int .i64 9, .string ⟨#[97, 98, 99, 100, 101, 102, 103, 104]⟩, .slice le 1 lke, .slice none 0 0, .slice none 0 0]) rfl (by kernel_rfl) (fun _ _ _ h => h) HCd_3.out rfl rfl (fun w' hSw => by have q0 := CellsAt.cell hSw 0; have q1 := CellsAt.cell hSw 1; have q2 := CellsAt.cell hSw 2; have q3 := CellsAt.cell hSw 3; have q4 := CellsAt.cell hSw 4; have q5 := CellsAt.cell hSw 5; have q6 := CellsAt.cell hSw 6; simp at q0 q1 q2 q3 q4 q5 q6; clear hSw; go_simp) ?_
  simp only [List.setIfInBounds_toArray, List.set_cons_zero, List.set_cons_succ]
  refine wpL_two (i := 0) (j := 6) rfl rfl (by kernel_rfl) (fun Kq hK => ?_) (fun Kq hK => ?_)
  · go_simp
    refine (reg_any _).mono ?_
    rintro e wrA ⟨v4, l4, rfl, hl4, hR4, br⟩
    have HB18 : Hid (Below w.heap.size w wrA) := HBd.out.trans (br.mono HBd.out.size)
    have HC18_0 : Hid (CellsAt wrA gA 27 #[.int .i64 ma, .int .i64 mi, .slice q lk j, .slice (some ⟨b, off, none⟩) 3 c]) := HCd_0.out.below br HCd_0.out.lt
    have HC18_1 : Hid (CellsAt wrA gB 27 #[.int .i64 mb, .int .i64 nb, .slice qb kb jb, .slice xb 1 cb]) := HCd_1.out.below br HCd_1.out.lt
    have HC18_2 : Hid (CellsAt wrA gS 27 #[.int .i64 ms, .int .i64 ns, .slice qs ks js, .slice xs ls cs]) := HCd_2.out.below br HCd_2.out.lt
    have HC18_3 : Hid (CellsAt wrA gM 31 #[.string ⟨#[108, 105, 98]⟩, .int .i64 1, .int .i64 9, .string ⟨#[97, 98, 99, 100, 101, 102, 103, 104]⟩, .slice le 1 lke, .slice none 0 0, .slice none 0 0]) := HCd_3.out.below br HCd_3.out.lt
    have HF18_0 : Hid (wrA.cell? ⟨b, off, none⟩ = some (.string ⟨#[101, 120, 116, 114, 97]⟩) ∧ (⟨b, off, none⟩ : Addr).block < wrA.heap.size) := ⟨(br.cell (p := ⟨b, off, none⟩) HFd_0.out.2).trans HFd_0.out.1, Nat.lt_of_lt_of_le HFd_0.out.2 br.size⟩
    clear HBd HCd_0 HCd_1 HCd_2 HCd_3 HFd_0
    have HMrA : Hid (IsMod wrA.heap.size wrA (.agg #[.string ⟨#[108, 105, 98]⟩, .int .i64 1, .int .i64 9, .string ⟨#[97, 98, 99, 100, 101, 102, 103, 104]⟩, .slice le 1 lke, .slice none 0 0, .slice none 0 0]) lib9M) := (HMd.out.below br).more br.size
    have HRrA : Hid (IsReg wrA.heap.size wrA v4 kernK l4) := hR4
    have HLr : Hid (l4.map PV.plc = pairL) := hl4
    clear br hR4 hl4 HMd
    go_simp
    refine hK.out _ _ HC18_3.out (fun _ => ?_)
    clear hK Kq
    refine wpL_two (i := 2) (j := 6) rfl rfl (by kernel_rfl) (fun Kq hK => ?_) (fun Kq hK => ?_)
    · go_simp
      refine (HUP.out l4 v4 _ _ HLr.out HRrA.out HMrA.out).mono ?_
      rintro e wuA ⟨⟨mu, nu, qu, ku, ju, bu, ou, cu, rfl, hbu, hu15, hu10⟩, bu4⟩
      have HB19 : Hid (Below w.heap.size w wuA) := HB18.out.trans (bu4.mono HB18.out.size)
      have HC19_0 : Hid (CellsAt wuA gA 27 #[.int .i64 ma, .int .i64 mi, .slice q lk j, .slice (some ⟨b, off, none⟩) 3 c]) := HC18_0.out.below bu4 HC18_0.out.lt
      have HC19_1 : Hid (CellsAt wuA gB 27 #[.int .i64 mb, .int .i64 nb, .slice qb kb jb, .slice xb 1 cb]) := HC18_1.out.below bu4 HC18_1.out.lt
      have HC19_2 : Hid (CellsAt wuA gS 27 #[.int .i64 ms, .int .i64 ns, .slice qs ks js, .slice xs ls cs]) := HC18_2.out.below bu4 HC18_2.out.lt
      have HC19_3 : Hid (CellsAt wuA gM 31 #[.string ⟨#[108, 105, 98]⟩, .int .i64 1, .int .i64 9, .string ⟨#[97, 98, 99, 100, 101, 102, 103, 104]⟩, .slice le 1 lke, .slice none 0 0, .slice none 0 0]) := HC18_3.out.below bu4 HC18_3.out.lt
      have HF19_0 : Hid (wuA.cell? ⟨b, off, none⟩ = some (.string ⟨#[101, 120, 116, 114, 97]⟩) ∧ (⟨b, off, none⟩ : Addr).block < wuA.heap.size) := ⟨(bu4.cell (p := ⟨b, off, none⟩) HF18_0.out.2).trans HF18_0.out.1, Nat.lt_of_lt_of_le HF18_0.out.2 bu4.size⟩
      clear HB18 HC18_0 HC18_1 HC18_2 HC18_3 HF18_0
      have HU15 : Hid (wuA.cell? ⟨bu, ou + 15, none⟩ = some (.int .i64 4) ∧ (⟨bu, ou + 15, none⟩ : Addr).block < wuA.heap.size) := ⟨hu15, hbu⟩
      have HU10 : Hid (wuA.cell? ⟨bu, ou + 10, none⟩ = some (.int .i64 9) ∧ (⟨bu, ou + 10, none⟩ : Addr).block < wuA.heap.size) := ⟨hu10, hbu⟩
      clear bu4 hu15 hu10 hbu HUP HLr HRrA HMrA
      go_simp
      refine hK.out _ _ HC19_3.out (fun _ => ?_)
      clear hK Kq
      refine wpL_take 3 28 (.tuple #[.agg #[.int .i64 mu, .int .i64 nu, .slice qu ku ju, .slice (some ⟨bu, ou, none⟩) 2 cu], .int .i64 0]) rfl (by kernel_rfl) (fun _ _ _ h => h) HC19_3.out rfl rfl (fun w' hSw => by clear hSw; go_simp) ?_
      simp only [List.setIfInBounds_toArray, List.set_cons_zero, List.set_cons_succ]
      refine wpL_take 4 32 (.agg #[.int .i64 mu, .int .i64 nu, .slice qu ku ju, .slice (some ⟨bu, ou, none⟩) 2 cu]) rfl (by kernel_rfl) (fun _ _ _ h => h) HC19_3.out rfl rfl (fun w' hSw => by clear hSw; go_simp) ?_
      simp only [List.setIfInBounds_toArray, List.set_cons_zero, List.set_cons_succ]
      refine wpL_take 5 33 (.int .i64 0) rfl (by kernel_rfl) (fun _ _ _ h => h) HC19_3.out rfl rfl (fun w' hSw => by clear hSw; go_simp) ?_
      simp only [List.setIfInBounds_toArray, List.set_cons_zero, List.set_cons_succ]
      refine wpL_step (i := 6) rfl (by kernel_rfl) (fun Kq hK => ?_)
      go_simp
      have ba : Below wuA.heap.size wuA (wuA.alloc (.cells #[.int .i64 0, .int .i64 0, .slice none 0 0, .slice none 0 0] 27)) := (Below.refl _ _).alloc (Nat.le_refl _) _
      have ol_gA_gU : gA < wuA.heap.size := CellsAt.lt HC19_0.out
      have ol_gB_gU : gB < wuA.heap.size := CellsAt.lt HC19_1.out
      have ol_gS_gU : gS < wuA.heap.size := CellsAt.lt HC19_2.out
      have ol_gM_gU : gM < wuA.heap.size := CellsAt.lt HC19_3.out
      have olw_gU : w.heap.size ≤ wuA.heap.size := HB19.out.size
      have HB20 : Hid (Below w.heap.size w (wuA.alloc (.cells #[.int .i64 0, .int .i64 0, .slice none 0 0, .slice none 0 0] 27))) := HB19.out.trans (ba.mono HB19.out.size)
      have HC20_0 : Hid (CellsAt (wuA.alloc (.cells #[.int .i64 0, .int .i64 0, .slice none 0 0, .slice none 0 0] 27)) gA 27 #[.int .i64 ma, .int .i64 mi, .slice q lk j, .slice (some ⟨b, off, none⟩) 3 c]) := HC19_0.out.below ba HC19_0.out.lt
      have HC20_1 : Hid (CellsAt (wuA.alloc (.cells #[.int .i64 0, .int .i64 0, .slice none 0 0, .slice none 0 0] 27)) gB 27 #[.int .i64 mb, .int .i64 nb, .slice qb kb jb, .slice xb 1 cb]) := HC19_1.out.below ba HC19_1.out.lt
      have HC20_2 : Hid (CellsAt (wuA.alloc (.cells #[.int .i64 0, .int .i64 0, .slice none 0 0, .slice none 0 0] 27)) gS 27 #[.int .i64 ms, .int .i64 ns, .slice qs ks js, .slice xs ls cs]) := HC19_2.out.below ba HC19_2.out.lt
      have HC20_3 : Hid (CellsAt (wuA.alloc (.cells #[.int .i64 0, .int .i64 0, .slice none 0 0, .slice none 0 0] 27)) gM 31 #[.string ⟨#[108, 105, 98]⟩, .int .i64 1, .int .i64 9, .string ⟨#[97, 98, 99, 100, 101, 102, 103, 104]⟩, .slice le 1 lke, .slice none 0 0, .slice none 0 0]) := HC19_3.out.below ba HC19_3.out.lt
      have HF20_0 : Hid ((wuA.alloc (.cells #[.int .i64 0, .int .i64 0, .slice none 0 0, .slice none 0 0] 27)).cell? ⟨b, off, none⟩ = some (.string ⟨#[101, 120, 116, 114, 97]⟩) ∧ (⟨b, off, none⟩ : Addr).block < (wuA.alloc (.cells #[.int .i64 0, .int .i64 0, .slice none 0 0, .slice none 0 0] 27)).heap.size) := ⟨(ba.cell (p := ⟨b, off, none⟩) HF19_0.out.2).trans HF19_0.out.1, Nat.lt_of_lt_of_le HF19_0.out.2 ba.size⟩
      have HF20_1 : Hid ((wuA.alloc (.cells #[.int .i64 0, .int .i64 0, .slice none 0 0, .slice none 0 0] 27)).cell? ⟨bu, ou + 15, none⟩ = some (.int .i64 4) ∧ (⟨bu, ou + 15, none⟩ : Addr).block < (wuA.alloc (.cells #[.int .i64 0, .int .i64 0, .slice none 0 0, .slice none 0 0] 27)).heap.size) := ⟨(ba.cell (p := ⟨bu, ou + 15, none⟩) HU15.out.2).trans HU15.out.1, Nat.lt_of_lt_of_le HU15.out.2 ba.size⟩
      have HF20_2 : Hid ((wuA.alloc (.cells #[.int .i64 0, .int .i64 0, .slice none 0 0, .slice none 0 0] 27)).cell? ⟨bu, ou + 10, none⟩ = some (.int .i64 9) ∧ (⟨bu, ou + 10, none⟩ : Addr).block < (wuA.alloc (.cells #[.int .i64 0, .int .i64 0, .slice none 0 0, .slice none 0 0] 27)).heap.size) := ⟨(ba.cell (p := ⟨bu, ou + 10, none⟩) HU10.out.2).trans HU10.out.1, Nat.lt_of_lt_of_le HU10.out.2 ba.size⟩
      clear HB19 HC19_0 HC19_1 HC19_2 HC19_3 HF19_0 HU15 HU10
      clear ba
      have HC21 : Hid (CellsAt (wuA.alloc (.cells #[.int .i64 0, .int .i64 0, .slice none 0 0, .slice none 0 0] 27)) wuA.heap.size 27 #[.int .i64 0, .int .i64 0, .slice none 0 0, .slice none 0 0]) := CellsAt.new _ _ _
      refine hK.out _ _ HC20_3.out (fun _ => ?_)
      clear hK Kq
      generalize (wuA.alloc (.cells #[.int .i64 0, .int .i64 0, .slice none 0 0, .slice none 0 0] 27)) = waA at *
      generalize wuA.heap.size = gU at *
      have z0 := CellsAt.cell HC21.out 0
      have f0 := CellsAt.frozen HC21.out 0
      have z1 := CellsAt.cell HC21.out 1
      have f1 := CellsAt.frozen HC21.out 1
      have z2 := CellsAt.cell HC21.out 2
      have f2 := CellsAt.frozen HC21.out 2
      have z3 := CellsAt.cell HC21.out 3
      have f3 := CellsAt.frozen HC21.out 3
      have zl := CellsAt.lt HC21.out
      simp at z0 z1 z2 z3
      refine wpL_step (i := 7) rfl (by kernel_rfl) (fun Kq hK => ?_)
      go_simp
      have hG := sets4_grown waA gU (.int .i64 mu) (.int .i64 nu) (.slice qu ku ju) (.slice (some ⟨bu, ou, none⟩) 2 cu)
      have HBz : Hid (Below w.heap.size w ((((waA.setCell ⟨gU, 0, none⟩ (.int .i64 mu)).setCell ⟨gU, 1, none⟩ (.int .i64 nu)).setCell ⟨gU, 2, none⟩ (.slice qu ku ju)).setCell ⟨gU, 3, none⟩ (.slice (some ⟨bu, ou, none⟩) 2 cu))) := HB20.out.grown hG HB20.out.size (fun q hq => by obtain rfl := Option.some.inj hq; omega)
      have hne0 : (some (⟨b, off, none⟩ : Addr).block : Option Nat) ≠ some gU := by
        intro e
        have e : b = gU := Option.some.inj e
        subst e
        exact (zreg_cells HC21.out off).1 _ HF20_0.out.1
      have HFz_0 : Hid (((((waA.setCell ⟨gU, 0, none⟩ (.int .i64 mu)).setCell ⟨gU, 1, none⟩ (.int .i64 nu)).setCell ⟨gU, 2, none⟩ (.slice qu ku ju)).setCell ⟨gU, 3, none⟩ (.slice (some ⟨bu, ou, none⟩) 2 cu)).cell? ⟨b, off, none⟩ = some (.string ⟨#[101, 120, 116, 114, 97]⟩) ∧ (⟨b, off, none⟩ : Addr).block < ((((waA.setCell ⟨gU, 0, none⟩ (.int .i64 mu)).setCell ⟨gU, 1, none⟩ (.int .i64 nu)).setCell ⟨gU, 2, none⟩ (.slice qu ku ju)).setCell ⟨gU, 3, none⟩ (.slice (some ⟨bu, ou, none⟩) 2 cu)).heap.size) := ⟨hG.cell HF20_0.out.1 hne0, Nat.lt_of_lt_of_le HF20_0.out.2 hG.size⟩
      clear hne0
      have hne1 : (some (⟨bu, ou + 15, none⟩ : Addr).block : Option Nat) ≠ some gU := by
        intro e
        have e : bu = gU := Option.some.inj e
        subst e
        have h1 := HF20_1.out.1
        rw [zreg_no HC21.out (by omega)] at h1
        cases h1
      have HFz_1 : Hid (((((waA.setCell ⟨gU, 0, none⟩ (.int .i64 mu)).setCell ⟨gU, 1, none⟩ (.int .i64 nu)).setCell ⟨gU, 2, none⟩ (.slice qu ku ju)).setCell ⟨gU, 3, none⟩ (.slice (some ⟨bu, ou, none⟩) 2 cu)).cell? ⟨bu, ou + 15, none⟩ = some (.int .i64 4) ∧ (⟨bu, ou + 15, none⟩ : Addr).block < ((((waA.setCell ⟨gU, 0, none⟩ (.int .i64 mu)).setCell ⟨gU, 1, none⟩ (.int .i64 nu)).setCell ⟨gU, 2, none⟩ (.slice qu ku ju)).setCell ⟨gU, 3, none⟩ (.slice (some ⟨bu, ou, none⟩) 2 cu)).heap.size) := ⟨hG.cell HF20_1.out.1 hne1, Nat.lt_of_lt_of_le HF20_1.out.2 hG.size⟩
      clear hne1
      have hne2 : (some (⟨bu, ou + 10, none⟩ : Addr).block : Option Nat) ≠ some gU := by
        intro e
        have e : bu = gU := Option.some.inj e
        subst e
        have h1 := HF20_2.out.1
        rw [zreg_no HC21.out (by omega)] at h1
        cases h1
      have HFz_2 : Hid (((((waA.setCell ⟨gU, 0, none⟩ (.int .i64 mu)).setCell ⟨gU, 1, none⟩ (.int .i64 nu)).setCell ⟨gU, 2, none⟩ (.slice qu ku ju)).setCell ⟨gU, 3, none⟩ (.slice (some ⟨bu, ou, none⟩) 2 cu)).cell? ⟨bu, ou + 10, none⟩ = some (.int .i64 9) ∧ (⟨bu, ou + 10, none⟩ : Addr).block < ((((waA.setCell ⟨gU, 0, none⟩ (.int .i64 mu)).setCell ⟨gU, 1, none⟩ (.int .i64 nu)).setCell ⟨gU, 2, none⟩ (.slice qu ku ju)).setCell ⟨gU, 3, none⟩ (.slice (some ⟨bu, ou, none⟩) 2 cu)).heap.size) := ⟨hG.cell HF20_2.out.1 hne2, Nat.lt_of_lt_of_le HF20_2.out.2 hG.size⟩
      clear hne2
      have HCz_0 : Hid (CellsAt ((((waA.setCell ⟨gU, 0, none⟩ (.int .i64 mu)).setCell ⟨gU, 1, none⟩ (.int .i64 nu)).setCell ⟨gU, 2, none⟩ (.slice qu ku ju)).setCell ⟨gU, 3, none⟩ (.slice (some ⟨bu, ou, none⟩) 2 cu)) gA 27 #[.int .i64 ma, .int .i64 mi, .slice q lk j, .slice (some ⟨b, off, none⟩) 3 c]) := HC20_0.out.kept hG (by intro e; have := Option.some.inj e; omega)
      have HCz_1 : Hid (CellsAt ((((waA.setCell ⟨gU, 0, none⟩ (.int .i64 mu)).setCell ⟨gU, 1, none⟩ (.int .i64 nu)).setCell ⟨gU, 2, none⟩ (.slice qu ku ju)).setCell ⟨gU, 3, none⟩ (.slice (some ⟨bu, ou, none⟩) 2 cu)) gB 27 #[.int .i64 mb, .int .i64 nb, .slice qb kb jb, .slice xb 1 cb]) := HC20_1.out.kept hG (by intro e; have := Option.some.inj e; omega)
      have HCz_2 : Hid (CellsAt ((((waA.setCell ⟨gU, 0, none⟩ (.int .i64 mu)).setCell ⟨gU, 1, none⟩ (.int .i64 nu)).setCell ⟨gU, 2, none⟩ (.slice qu ku ju)).setCell ⟨gU, 3, none⟩ (.slice (some ⟨bu, ou, none⟩) 2 cu)) gS 27 #[.int .i64 ms, .int .i64 ns, .slice qs ks js, .slice xs ls cs]) := HC20_2.out.kept hG (by intro e; have := Option.some.inj e; omega)
      have HCz_3 : Hid (CellsAt ((((waA.setCell ⟨gU, 0, none⟩ (.int .i64 mu)).setCell ⟨gU, 1, none⟩ (.int .i64 nu)).setCell ⟨gU, 2, none⟩ (.slice qu ku ju)).setCell ⟨gU, 3, none⟩ (.slice (some ⟨bu, ou, none⟩) 2 cu)) gM 31 #[.string ⟨#[108, 105, 98]⟩, .int .i64 1, .int .i64 9, .string ⟨#[97, 98, 99, 100, 101, 102, 103, 104]⟩, .slice le 1 lke, .slice none 0 0, .slice none 0 0]) := HC20_3.out.kept hG (by intro e; have := Option.some.inj e; omega)
      have HCz_4 : Hid (CellsAt ((((waA.setCell ⟨gU, 0, none⟩ (.int .i64 mu)).setCell ⟨gU, 1, none⟩ (.int .i64 nu)).setCell ⟨gU, 2, none⟩ (.slice qu ku ju)).setCell ⟨gU, 3, none⟩ (.slice (some ⟨bu, ou, none⟩) 2 cu)) gU 27 #[.int .i64 mu, .int .i64 nu, .slice qu ku ju, .slice (some ⟨bu, ou, none⟩) 2 cu]) := sets4 HC21.out _ _ _ _
      clear hG z0 z1 z2 z3 f0 f1 f2 f3 zl HB20 HF20_0 HF20_1 HF20_2 HC20_0 HC20_1 HC20_2 HC20_3 HC21
      refine hK.out _ _ HCz_3.out (fun _ => ?_)
      clear hK Kq
      generalize ((((waA.setCell ⟨gU, 0, none⟩ (.int .i64 mu)).setCell ⟨gU, 1, none⟩ (.int .i64 nu)).setCell ⟨gU, 2, none⟩ (.slice qu ku ju)).setCell ⟨gU, 3, none⟩ (.slice (some ⟨bu, ou, none⟩) 2 cu)) = wz at *
      refine wpL_last (x := 8) rfl (by kernel_rfl) (by kernel_rfl) (fun Kq hK => ?_)
      go_simp
      refine hK.out _ _ ?_
      refine NoPanic.normal ?_
      clear hK Kq
      have ygA := CellsAt.cell HCz_0.out 3
      have ylgA := CellsAt.lt HCz_0.out
      have ygB := CellsAt.cell HCz_1.out 3
      have ylgB := CellsAt.lt HCz_1.out
      have ygU := CellsAt.cell HCz_4.out 3
      have ylgU := CellsAt.lt HCz_4.out
      simp at ygA ygB ygU
      obtain ⟨x0, xl0⟩ := HFz_0.out
      obtain ⟨x1, xl1⟩ := HFz_1.out
      obtain ⟨x2, xl2⟩ := HFz_2.out
      dsimp only at xl0 xl1 xl2
      go_wp2
      go_ret
      exact ⟨rfl, HBz.out⟩
    · go_simp
      have ba : Below wrA.heap.size wrA (wrA.alloc (.cells #[.int .i64 0, .int .i64 0, .slice none 0 0, .slice none 0 0] 27)) := (Below.refl _ _).alloc (Nat.le_refl _) _
      have ol_gA_gU : gA < wrA.heap.size := CellsAt.lt HC18_0.out
      have ol_gB_gU : gB < wrA.heap.size := CellsAt.lt HC18_1.out
      have ol_gS_gU : gS < wrA.heap.size := CellsAt.lt HC18_2.out
      have ol_gM_gU : gM < wrA.heap.size := CellsAt.lt HC18_3.out
      have olw_gU : w.heap.size ≤ wrA.heap.size := HB18.out.size
      have HB19 : Hid (Below w.heap.size w (wrA.alloc (.cells #[.int .i64 0, .int .i64 0, .slice none 0 0, .slice none 0 0] 27))) := HB18.out.trans (ba.mono HB18.out.size)
      have HC19_0 : Hid (CellsAt (wrA.alloc (.cells #[.int .i64 0, .int .i64 0, .slice none 0 0, .slice none 0 0] 27)) gA 27 #[.int .i64 ma, .int .i64 mi, .slice q lk j, .slice (some ⟨b, off, none⟩) 3 c]) := HC18_0.out.below ba HC18_0.out.lt
      have HC19_1 : Hid (CellsAt (wrA.alloc (.cells #[.int .i64 0, .int .i64 0, .slice none 0 0, .slice none 0 0] 27)) gB 27 #[.int .i64 mb, .int .i64 nb, .slice qb kb jb, .slice xb 1 cb]) := HC18_1.out.below ba HC18_1.out.lt
      have HC19_2 : Hid (CellsAt (wrA.alloc (.cells #[.int .i64 0, .int .i64 0, .slice none 0 0, .slice none 0 0] 27)) gS 27 #[.int .i64 ms, .int .i64 ns, .slice qs ks js, .slice xs ls cs]) := HC18_2.out.below ba HC18_2.out.lt
      have HC19_3 : Hid (CellsAt (wrA.alloc (.cells #[.int .i64 0, .int .i64 0, .slice none 0 0, .slice none 0 0] 27)) gM 31 #[.string ⟨#[108, 105, 98]⟩, .int .i64 1, .int .i64 9, .string ⟨#[97, 98, 99, 100, 101, 102, 103, 104]⟩, .slice le 1 lke, .slice none 0 0, .slice none 0 0]) := HC18_3.out.below ba HC18_3.out.lt
      have HF19_0 : Hid ((wrA.alloc (.cells #[.int .i64 0, .int .i64 0, .slice none 0 0, .slice none 0 0] 27)).cell? ⟨b, off, none⟩ = some (.string ⟨#[101, 120, 116, 114, 97]⟩) ∧ (⟨b, off, none⟩ : Addr).block < (wrA.alloc (.cells #[.int .i64 0, .int .i64 0, .slice none 0 0, .slice none 0 0] 27)).heap.size) := ⟨(ba.cell (p := ⟨b, off, none⟩) HF18_0.out.2).trans HF18_0.out.1, Nat.lt_of_lt_of_le HF18_0.out.2 ba.size⟩
      clear HB18 HC18_0 HC18_1 HC18_2 HC18_3 HF18_0
      clear ba
      have HC20 : Hid (CellsAt (wrA.alloc (.cells #[.int .i64 0, .int .i64 0, .slice none 0 0, .slice none 0 0] 27)) wrA.heap.size 27 #[.int .i64 0, .int .i64 0, .slice none 0 0, .slice none 0 0]) := CellsAt.new _ _ _
      have hba : Below wrA.heap.size wrA (wrA.alloc (.cells #[.int .i64 0, .int .i64 0, .slice none 0 0, .slice none 0 0] 27)) := (Below.refl _ _).alloc (Nat.le_refl _) _
      have HMaB : Hid (IsMod (wrA.alloc (.cells #[.int .i64 0, .int .i64 0, .slice none 0 0, .slice none 0 0] 27)).heap.size (wrA.alloc (.cells #[.int .i64 0, .int .i64 0, .slice none 0 0, .slice none 0 0] 27)) (.agg #[.string ⟨#[108, 105, 98]⟩, .int .i64 1, .int .i64 9, .string ⟨#[97, 98, 99, 100, 101, 102, 103, 104]⟩, .slice le 1 lke, .slice none 0 0, .slice none 0 0]) lib9M) := (HMrA.out.below hba).more hba.size
      have HRaB : Hid (IsReg (wrA.alloc (.cells #[.int .i64 0, .int .i64 0, .slice none 0 0, .slice none 0 0] 27)).heap.size (wrA.alloc (.cells #[.int .i64 0, .int .i64 0, .slice none 0 0, .slice none 0 0] 27)) v4 kernK l4) := (HRrA.out.below hba).more hba.size
      clear hba HMrA HRrA
      refine hK.out _ _ HC19_3.out (fun _ => ?_)
      clear hK Kq
      generalize (wrA.alloc (.cells #[.int .i64 0, .int .i64 0, .slice none 0 0, .slice none 0 0] 27)) = waB at *
      generalize wrA.heap.size = gU at *
      refine wpL_step (i := 2) rfl (by kernel_rfl) (fun Kq hK => ?_)
      go_simp
      refine (HUP.out l4 v4 _ _ HLr.out HRaB.out HMaB.out).mono ?_
      rintro e wuB ⟨⟨mu, nu, qu, ku, ju, bu, ou, cu, rfl, hbu, hu15, hu10⟩, bu4⟩
      have HB21 : Hid (Below w.heap.size w wuB) := HB19.out.trans (bu4.mono HB19.out.size)
      have HC21_0 : Hid (CellsAt wuB gA 27 #[.int .i64 ma, .int .i64 mi, .slice q lk j, .slice (some ⟨b, off, none⟩) 3 c]) := HC19_0.out.below bu4 HC19_0.out.lt
      have HC21_1 : Hid (CellsAt wuB gB 27 #[.int .i64 mb, .int .i64 nb, .slice qb kb jb, .slice xb 1 cb]) := HC19_1.out.below bu4 HC19_1.out.lt
      have HC21_2 : Hid (CellsAt wuB gS 27 #[.int .i64 ms, .int .i64 ns, .slice qs ks js, .slice xs ls cs]) := HC19_2.out.below bu4 HC19_2.out.lt
      have HC21_3 : Hid (CellsAt wuB gM 31 #[.string ⟨#[108, 105, 98]⟩, .int .i64 1, .int .i64 9, .string ⟨#[97, 98, 99, 100, 101, 102, 103, 104]⟩, .slice le 1 lke, .slice none 0 0, .slice none 0 0]) := HC19_3.out.below bu4 HC19_3.out.lt
      have HC21_4 : Hid (CellsAt wuB gU 27 #[.int .i64 0, .int .i64 0, .slice none 0 0, .slice none 0 0]) := HC20.out.below bu4 HC20.out.lt
      have HF21_0 : Hid (wuB.cell? ⟨b, off, none⟩ = some (.string ⟨#[101, 120, 116, 114, 97]⟩) ∧ (⟨b, off, none⟩ : Addr).block < wuB.heap.size) := ⟨(bu4.cell (p := ⟨b, off, none⟩) HF19_0.out.2).trans HF19_0.out.1, Nat.lt_of_lt_of_le HF19_0.out.2 bu4.size⟩
      clear HB19 HC19_0 HC19_1 HC19_2 HC19_3 HC20 HF19_0
      have HU15 : Hid (wuB.cell? ⟨bu, ou + 15, none⟩ = some (.int .i64 4) ∧ (⟨bu, ou + 15, none⟩ : Addr).block < wuB.heap.size) := ⟨hu15, hbu⟩
      have HU10 : Hid (wuB.cell? ⟨bu, ou + 10, none⟩ = some (.int .i64 9) ∧ (⟨bu, ou + 10, none⟩ : Addr).block < wuB.heap.size) := ⟨hu10, hbu⟩
      clear bu4 hu15 hu10 hbu HUP HLr HRaB HMaB
      go_simp
      refine hK.out _ _ HC21_3.out (fun _ => ?_)
      clear hK Kq
      refine wpL_take 3 28 (.tuple #[.agg #[.int .i64 mu, .int .i64 nu, .slice qu ku ju, .slice (some ⟨bu, ou, none⟩) 2 cu], .int .i64 0]) rfl (by kernel_rfl) (fun _ _ _ h => h) HC21_3.out rfl rfl (fun w' hSw => by clear hSw; go_simp) ?_
      simp only [List.setIfInBounds_toArray, List.set_cons_zero, List.set_cons_succ]
      refine wpL_take 4 32 (.agg #[.int .i64 mu, .int .i64 nu, .slice qu ku ju, .slice (some ⟨bu, ou, none⟩) 2 cu]) rfl (by kernel_rfl) (fun _ _ _ h => h) HC21_3.out rfl rfl (fun w' hSw => by clear hSw; go_simp) ?_
      simp only [List.setIfInBounds_toArray, List.set_cons_zero, List.set_cons_succ]
      refine wpL_take 5 33 (.int .i64 0) rfl (by kernel_rfl) (fun _ _ _ h => h) HC21_3.out rfl rfl (fun w' hSw => by clear hSw; go_simp) ?_
      simp only [List.setIfInBounds_toArray, List.set_cons_zero, List.set_cons_succ]
      have z0 := CellsAt.cell HC21_4.out 0
      have f0 := CellsAt.frozen HC21_4.out 0
      have z1 := CellsAt.cell HC21_4.out 1
      have f1 := CellsAt.frozen HC21_4.out 1
      have z2 := CellsAt.cell HC21_4.out 2
      have f2 := CellsAt.frozen HC21_4.out 2
      have z3 := CellsAt.cell HC21_4.out 3
      have f3 := CellsAt.frozen HC21_4.out 3
      have zl := CellsAt.lt HC21_4.out
      simp at z0 z1 z2 z3
      refine wpL_step (i := 7) rfl (by kernel_rfl) (fun Kq hK => ?_)
      go_simp
      have hG := sets4_grown wuB gU (.int .i64 mu) (.int .i64 nu) (.slice qu ku ju) (.slice (some ⟨bu, ou, none⟩) 2 cu)
      have HBz : Hid (Below w.heap.size w ((((wuB.setCell ⟨gU, 0, none⟩ (.int .i64 mu)).setCell ⟨gU, 1, none⟩ (.int .i64 nu)).setCell ⟨gU, 2, none⟩ (.slice qu ku ju)).setCell ⟨gU, 3, none⟩ (.slice (some ⟨bu, ou, none⟩) 2 cu))) := HB21.out.grown hG HB21.out.size (fun q hq => by obtain rfl := Option.some.inj hq; omega)
      have hne0 : (some (⟨b, off, none⟩ : Addr).block : Option Nat) ≠ some gU := by
        intro e
        have e : b = gU := Option.some.inj e
        subst e
        exact (zreg_cells HC21_4.out off).1 _ HF21_0.out.1
      have HFz_0 : Hid (((((wuB.setCell ⟨gU, 0, none⟩ (.int .i64 mu)).setCell ⟨gU, 1, none⟩ (.int .i64 nu)).setCell ⟨gU, 2, none⟩ (.slice qu ku ju)).setCell ⟨gU, 3, none⟩ (.slice (some ⟨bu, ou, none⟩) 2 cu)).cell? ⟨b, off, none⟩ = some (.string ⟨#[101, 120, 116, 114, 97]⟩) ∧ (⟨b, off, none⟩ : Addr).block < ((((wuB.setCell ⟨gU, 0, none⟩ (.int .i64 mu)).setCell ⟨gU, 1, none⟩ (.int .i64 nu)).setCell ⟨gU, 2, none⟩ (.slice qu ku ju)).setCell ⟨gU, 3, none⟩ (.slice (some ⟨bu, ou, none⟩) 2 cu)).heap.size) := ⟨hG.cell HF21_0.out.1 hne0, Nat.lt_of_lt_of_le HF21_0.out.2 hG.size⟩
      clear hne0
      have hne1 : (some (⟨bu, ou + 15, none⟩ : Addr).block : Option Nat) ≠ some gU := by
        intro e
        have e : bu = gU := Option.some.inj e
        subst e
        have h1 := HU15.out.1
        rw [zreg_no HC21_4.out (by omega)] at h1
        cases h1
      have HFz_1 : Hid (((((wuB.setCell ⟨gU, 0, none⟩ (.int .i64 mu)).setCell ⟨gU, 1, none⟩ (.int .i64 nu)).setCell ⟨gU, 2, none⟩ (.slice qu ku ju)).setCell ⟨gU, 3, none⟩ (.slice (some ⟨bu, ou, none⟩) 2 cu)).cell? ⟨bu, ou + 15, none⟩ = some (.int .i64 4) ∧ (⟨bu, ou + 15, none⟩ : Addr).block < ((((wuB.setCell ⟨gU, 0, none⟩ (.int .i64 mu)).setCell ⟨gU, 1, none⟩ (.int .i64 nu)).setCell ⟨gU, 2, none⟩ (.slice qu ku ju)).setCell ⟨gU, 3, none⟩ (.slice (some ⟨bu, ou, none⟩) 2 cu)).heap.size) := ⟨hG.cell HU15.out.1 hne1, Nat.lt_of_lt_of_le HU15.out.2 hG.size⟩
      clear hne1
      have hne2 : (some (⟨bu, ou + 10, none⟩ : Addr).block : Option Nat) ≠ some gU := by
        intro e
        have e : bu = gU := Option.some.inj e
        subst e
        have h1 := HU10.out.1
        rw [zreg_no HC21_4.out (by omega)] at h1
        cases h1
      have HFz_2 : Hid (((((wuB.setCell ⟨gU, 0, none⟩ (.int .i64 mu)).setCell ⟨gU, 1, none⟩ (.int .i64 nu)).setCell ⟨gU, 2, none⟩ (.slice qu ku ju)).setCell ⟨gU, 3, none⟩ (.slice (some ⟨bu, ou, none⟩) 2 cu)).cell? ⟨bu, ou + 10, none⟩ = some (.int .i64 9) ∧ (⟨bu, ou + 10, none⟩ : Addr).block < ((((wuB.setCell ⟨gU, 0, none⟩ (.int .i64 mu)).setCell ⟨gU, 1, none⟩ (.int .i64 nu)).setCell ⟨gU, 2, none⟩ (.slice qu ku ju)).setCell ⟨gU, 3, none⟩ (.slice (some ⟨bu, ou, none⟩) 2 cu)).heap.size) := ⟨hG.cell HU10.out.1 hne2, Nat.lt_of_lt_of_le HU10.out.2 hG.size⟩
      clear hne2
      have HCz_0 : Hid (CellsAt ((((wuB.setCell ⟨gU, 0, none⟩ (.int .i64 mu)).setCell ⟨gU, 1, none⟩ (.int .i64 nu)).setCell ⟨gU, 2, none⟩ (.slice qu ku ju)).setCell ⟨gU, 3, none⟩ (.slice (some ⟨bu, ou, none⟩) 2 cu)) gA 27 #[.int .i64 ma, .int .i64 mi, .slice q lk j, .slice (some ⟨b, off, none⟩) 3 c]) := HC21_0.out.kept hG (by intro e; have := Option.some.inj e; omega)
      have HCz_1 : Hid (CellsAt ((((wuB.setCell ⟨gU, 0, none⟩ (.int .i64 mu)).setCell ⟨gU, 1, none⟩ (.int .i64 nu)).setCell ⟨gU, 2, none⟩ (.slice qu ku ju)).setCell ⟨gU, 3, none⟩ (.slice (some ⟨bu, ou, none⟩) 2 cu)) gB 27 #[.int .i64 mb, .int .i64 nb, .slice qb kb jb, .slice xb 1 cb]) := HC21_1.out.kept hG (by intro e; have := Option.some.inj e; omega)
      have HCz_2 : Hid (CellsAt ((((wuB.setCell ⟨gU, 0, none⟩ (.int .i64 mu)).setCell ⟨gU, 1, none⟩ (.int .i64 nu)).setCell ⟨gU, 2, none⟩ (.slice qu ku ju)).setCell ⟨gU, 3, none⟩ (.slice (some ⟨bu, ou, none⟩) 2 cu)) gS 27 #[.int .i64 ms, .int .i64 ns, .slice qs ks js, .slice xs ls cs]) := HC21_2.out.kept hG (by intro e; have := Option.some.inj e; omega)
      have HCz_3 : Hid (CellsAt ((((wuB.setCell ⟨gU, 0, none⟩ (.int .i64 mu)).setCell ⟨gU, 1, none⟩ (.int .i64 nu)).setCell ⟨gU, 2, none⟩ (.slice qu ku ju)).setCell ⟨gU, 3, none⟩ (.slice (some ⟨bu, ou, none⟩) 2 cu)) gM 31 #[.string ⟨#[108, 105, 98]⟩, .int .i64 1, .int .i64 9, .string ⟨#[97, 98, 99, 100, 101, 102, 103, 104]⟩, .slice le 1 lke, .slice none 0 0, .slice none 0 0]) := HC21_3.out.kept hG (by intro e; have := Option.some.inj e; omega)
      have HCz_4 : Hid (CellsAt ((((wuB.setCell ⟨gU, 0, none⟩ (.int .i64 mu)).setCell ⟨gU, 1, none⟩ (.int .i64 nu)).setCell ⟨gU, 2, none⟩ (.slice qu ku ju)).setCell ⟨gU, 3, none⟩ (.slice (some ⟨bu, ou, none⟩) 2 cu)) gU 27 #[.int .i64 mu, .int .i64 nu, .slice qu ku ju, .slice (some ⟨bu, ou, none⟩) 2 cu]) := sets4 HC21_4.out _ _ _ _
      clear hG z0 z1 z2 z3 f0 f1 f2 f3 zl HB21 HF21_0 HU15 HU10 HC21_0 HC21_1 HC21_2 HC21_3 HC21_4
      refine hK.out _ _ HCz_3.out (fun _ => ?_)
      clear hK Kq
      generalize ((((wuB.setCell ⟨gU, 0, none⟩ (.int .i64 mu)).setCell ⟨gU, 1, none⟩ (.int .i64 nu)).setCell ⟨gU, 2, none⟩ (.slice qu ku ju)).setCell ⟨gU, 3, none⟩ (.slice (some ⟨bu, ou, none⟩) 2 cu)) = wz at *
      refine wpL_last (x := 8) rfl (by kernel_rfl) (by kernel_rfl) (fun Kq hK => ?_)
      go_simp
      refine hK.out _ _ ?_
      refine NoPanic.normal ?_
      clear hK Kq
      have ygA := CellsAt.cell HCz_0.out 3
      have ylgA := CellsAt.lt HCz_0.out
      have ygB := CellsAt.cell HCz_1.out 3
      have ylgB := CellsAt.lt HCz_1.out
      have ygU := CellsAt.cell HCz_4.out 3
      have ylgU := CellsAt.lt HCz_4.out
      simp at ygA ygB ygU
      obtain ⟨x0, xl0⟩ := HFz_0.out
      obtain ⟨x1, xl1⟩ := HFz_1.out
      obtain ⟨x2, xl2⟩ := HFz_2.out
      dsimp only at xl0 xl1 xl2
      go_wp2
      go_ret
      exact ⟨rfl, HBz.out⟩
  · go_simp
    have ba : Below w12.heap.size w12 (w12.alloc (.cells #[.int .i64 0, .int .i64 0, .slice none 0 0, .slice none 0 0] 27)) := (Below.refl _ _).alloc (Nat.le_refl _) _
    have ol_gA_gU : gA < w12.heap.size := CellsAt.lt HCd_0.out
    have ol_gB_gU : gB < w12.heap.size := CellsAt.lt HCd_1.out
    have ol_gS_gU : gS < w12.heap.size := CellsAt.lt HCd_2.out
    have ol_gM_gU : gM < w12.heap.size := CellsAt.lt HCd_3.out
    have olw_gU : w.heap.size ≤ w12.heap.size := HBd.out.size
    have HB18 : Hid (Below w.heap.size w (w12.alloc (.cells #[.int .i64 0, .int .i64 0, .slice none 0 0, .slice none 0 0] 27))) := HBd.out.trans (ba.mono HBd.out.size)
    have HC18_0 : Hid (CellsAt (w12.alloc (.cells #[.int .i64 0, .int .i64 0, .slice none 0 0, .slice none 0 0] 27)) gA 27 #[.int .i64 ma, .int .i64 mi, .slice q lk j, .slice (some ⟨b, off, none⟩) 3 c]) := HCd_0.out.below ba HCd_0.out.lt
    have HC18_1 : Hid (CellsAt (w12.alloc (.cells #[.int .i64 0, .int .i64 0, .slice none 0 0, .slice none 0 0] 27)) gB 27 #[.int .i64 mb, .int .i64 nb, .slice qb kb jb, .slice xb 1 cb]) := HCd_1.out.below ba HCd_1.out.lt
    have HC18_2 : Hid (CellsAt (w12.alloc (.cells #[.int .i64 0, .int .i64 0, .slice none 0 0, .slice none 0 0] 27)) gS 27 #[.int .i64 ms, .int .i64 ns, .slice qs ks js, .slice xs ls cs]) := HCd_2.out.below ba HCd_2.out.lt
    have HC18_3 : Hid (CellsAt (w12.alloc (.cells #[.int .i64 0, .int .i64 0, .slice none 0 0, .slice none 0 0] 27)) gM 31 #[.string ⟨#[108, 105, 98]⟩, .int .i64 1, .int .i64 9, .string ⟨#[97, 98, 99, 100, 101, 102, 103, 104]⟩, .slice le 1 lke, .slice none 0 0, .slice none 0 0]) := HCd_3.out.below ba HCd_3.out.lt
    have HF18_0 : Hid ((w12.alloc (.cells #[.int .i64 0, .int .i64 0, .slice none 0 0, .slice none 0 0] 27)).cell? ⟨b, off, none⟩ = some (.string ⟨#[101, 120, 116, 114, 97]⟩) ∧ (⟨b, off, none⟩ : Addr).block < (w12.alloc (.cells #[.int .i64 0, .int .i64 0, .slice none 0 0, .slice none 0 0] 27)).heap.size) := ⟨(ba.cell (p := ⟨b, off, none⟩) HFd_0.out.2).trans HFd_0.out.1, Nat.lt_of_lt_of_le HFd_0.out.2 ba.size⟩
    clear HBd HCd_0 HCd_1 HCd_2 HCd_3 HFd_0
    clear ba
    have HC19 : Hid (CellsAt (w12.alloc (.cells #[.int .i64 0, .int .i64 0, .slice none 0 0, .slice none 0 0] 27)) w12.heap.size 27 #[.int .i64 0, .int .i64 0, .slice none 0 0, .slice none 0 0]) := CellsAt.new _ _ _
    have hba : Below w12.heap.size w12 (w12.alloc (.cells #[.int .i64 0, .int .i64 0, .slice none 0 0, .slice none 0 0] 27)) := (Below.refl _ _).alloc (Nat.le_refl _) _
    have HMaC : Hid (IsMod (w12.alloc (.cells #[.int .i64 0, .int .i64 0, .slice none 0 0, .slice none 0 0] 27)).heap.size (w12.alloc (.cells #[.int .i64 0, .int .i64 0, .slice none 0 0, .slice none 0 0] 27)) (.agg #[.string ⟨#[108, 105, 98]⟩, .int .i64 1, .int .i64 9, .string ⟨#[97, 98, 99, 100, 101, 102, 103, 104]⟩, .slice le 1 lke, .slice none 0 0, .slice none 0 0]) lib9M) := (HMd.out.below hba).more hba.size
    clear hba HMd
    refine hK.out _ _ HC18_3.out (fun _ => ?_)
    clear hK Kq
    generalize (w12.alloc (.cells #[.int .i64 0, .int .i64 0, .slice none 0 0, .slice none 0 0] 27)) = waC at *
    generalize w12.heap.size = gU at *
    refine wpL_step (i := 0) rfl (by kernel_rfl) (fun Kq hK => ?_)
    go_simp
    refine (reg_any _).mono ?_
    rintro e wrC ⟨v4, l4, rfl, hl4, hR4, br⟩
    have HB20 : Hid (Below w.heap.size w wrC) := HB18.out.trans (br.mono HB18.out.size)
    have HC20_0 : Hid (CellsAt wrC gA 27 #[.int .i64 ma, .int .i64 mi, .slice q lk j, .slice (some ⟨b, off, none⟩) 3 c]) := HC18_0.out.below br HC18_0.out.lt
    have HC20_1 : Hid (CellsAt wrC gB 27 #[.int .i64 mb, .int .i64 nb, .slice qb kb jb, .slice xb 1 cb]) := HC18_1.out.below br HC18_1.out.lt
    have HC20_2 : Hid (CellsAt wrC gS 27 #[.int .i64 ms, .int .i64 ns, .slice qs ks js, .slice xs ls cs]) := HC18_2.out.below br HC18_2.out.lt
    have HC20_3 : Hid (CellsAt wrC gM 31 #[.string ⟨#[108, 105, 98]⟩, .int .i64 1, .int .i64 9, .string ⟨#[97, 98, 99, 100, 101, 102, 103, 104]⟩, .slice le 1 lke, .slice none 0 0, .slice none 0 0]) := HC18_3.out.below br HC18_3.out.lt
    have HC20_4 : Hid (CellsAt wrC gU 27 #[.int .i64 0, .int .i64 0, .slice none 0 0, .slice none 0 0]) := HC19.out.below br HC19.out.lt
    have HF20_0 : Hid (wrC.cell? ⟨b, off, none⟩ = some (.string ⟨#[101, 120, 116, 114, 97]⟩) ∧ (⟨b, off, none⟩ : Addr).block < wrC.heap.size) := ⟨(br.cell (p := ⟨b, off, none⟩) HF18_0.out.2).trans HF18_0.out.1, Nat.lt_of_lt_of_le HF18_0.out.2 br.size⟩
    clear HB18 HC18_0 HC18_1 HC18_2 HC18_3 HC19 HF18_0
    have HMrC : Hid (IsMod wrC.heap.size wrC (.agg #[.string ⟨#[108, 105, 98]⟩, .int .i64 1, .int .i64 9, .string ⟨#[97, 98, 99, 100, 101, 102, 103, 104]⟩, .slice le 1 lke, .slice none 0 0, .slice none 0 0]) lib9M) := (HMaC.out.below br).more br.size
    have HRrC : Hid (IsReg wrC.heap.size wrC v4 kernK l4) := hR4
    have HLr : Hid (l4.map PV.plc = pairL) := hl4
    clear br hR4 hl4 HMaC
    go_simp
    refine hK.out _ _ HC20_3.out (fun _ => ?_)
    clear hK Kq
    refine wpL_step (i := 2) rfl (by kernel_rfl) (fun Kq hK => ?_)
    go_simp
    refine (HUP.out l4 v4 _ _ HLr.out HRrC.out HMrC.out).mono ?_
    rintro e wuC ⟨⟨mu, nu, qu, ku, ju, bu, ou, cu, rfl, hbu, hu15, hu10⟩, bu4⟩
    have HB21 : Hid (Below w.heap.size w wuC) := HB20.out.trans (bu4.mono HB20.out.size)
    have HC21_0 : Hid (CellsAt wuC gA 27 #[.int .i64 ma, .int .i64 mi, .slice q lk j, .slice (some ⟨b, off, none⟩) 3 c]) := HC20_0.out.below bu4 HC20_0.out.lt
    have HC21_1 : Hid (CellsAt wuC gB 27 #[.int .i64 mb, .int .i64 nb, .slice qb kb jb, .slice xb 1 cb]) := HC20_1.out.below bu4 HC20_1.out.lt
    have HC21_2 : Hid (CellsAt wuC gS 27 #[.int .i64 ms, .int .i64 ns, .slice qs ks js, .slice xs ls cs]) := HC20_2.out.below bu4 HC20_2.out.lt
    have HC21_3 : Hid (CellsAt wuC gM 31 #[.string ⟨#[108, 105, 98]⟩, .int .i64 1, .int .i64 9, .string ⟨#[97, 98, 99, 100, 101, 102, 103, 104]⟩, .slice le 1 lke, .slice none 0 0, .slice none 0 0]) := HC20_3.out.below bu4 HC20_3.out.lt
    have HC21_4 : Hid (CellsAt wuC gU 27 #[.int .i64 0, .int .i64 0, .slice none 0 0, .slice none 0 0]) := HC20_4.out.below bu4 HC20_4.out.lt
    have HF21_0 : Hid (wuC.cell? ⟨b, off, none⟩ = some (.string ⟨#[101, 120, 116, 114, 97]⟩) ∧ (⟨b, off, none⟩ : Addr).block < wuC.heap.size) := ⟨(bu4.cell (p := ⟨b, off, none⟩) HF20_0.out.2).trans HF20_0.out.1, Nat.lt_of_lt_of_le HF20_0.out.2 bu4.size⟩
    clear HB20 HC20_0 HC20_1 HC20_2 HC20_3 HC20_4 HF20_0
    have HU15 : Hid (wuC.cell? ⟨bu, ou + 15, none⟩ = some (.int .i64 4) ∧ (⟨bu, ou + 15, none⟩ : Addr).block < wuC.heap.size) := ⟨hu15, hbu⟩
    have HU10 : Hid (wuC.cell? ⟨bu, ou + 10, none⟩ = some (.int .i64 9) ∧ (⟨bu, ou + 10, none⟩ : Addr).block < wuC.heap.size) := ⟨hu10, hbu⟩
    clear bu4 hu15 hu10 hbu HUP HLr HRrC HMrC
    go_simp
    refine hK.out _ _ HC21_3.out (fun _ => ?_)
    clear hK Kq
    refine wpL_take 3 28 (.tuple #[.agg #[.int .i64 mu, .int .i64 nu, .slice qu ku ju, .slice (some ⟨bu, ou, none⟩) 2 cu], .int .i64 0]) rfl (by kernel_rfl) (fun _ _ _ h => h) HC21_3.out rfl rfl (fun w' hSw => by clear hSw; go_simp) ?_
    simp only [List.setIfInBounds_toArray, List.set_cons_zero, List.set_cons_succ]
    refine wpL_take 4 32 (.agg #[.int .i64 mu, .int .i64 nu, .slice qu ku ju, .slice (some ⟨bu, ou, none⟩) 2 cu]) rfl (by kernel_rfl) (fun _ _ _ h => h) HC21_3.out rfl rfl (fun w' hSw => by clear hSw; go_simp) ?_
    simp only [List.setIfInBounds_toArray, List.set_cons_zero, List.set_cons_succ]
    refine wpL_take 5 33 (.int .i64 0) rfl (by kernel_rfl) (fun _ _ _ h => h) HC21_3.out rfl rfl (fun w' hSw => by clear hSw; go_simp) ?_
    simp only [List.setIfInBounds_toArray, List.set_cons_zero, List.set_cons_succ]
    have z0 := CellsAt.cell HC21_4.out 0
    have f0 := CellsAt.frozen HC21_4.out 0
    have z1 := CellsAt.cell HC21_4.out 1
    have f1 := CellsAt.frozen HC21_4.out 1
    have z2 := CellsAt.cell HC21_4.out 2
    have f2 := CellsAt.frozen HC21_4.out 2
    have z3 := CellsAt.cell HC21_4.out 3
    have f3 := CellsAt.frozen HC21_4.out 3
    have zl := CellsAt.lt HC21_4.out
    simp at z0 z1 z2 z3
    refine wpL_step (i := 7) rfl (by kernel_rfl) (fun Kq hK => ?_)
    go_simp
    have hG := sets4_grown wuC gU (.int .i64 mu) (.int .i64 nu) (.slice qu ku ju) (.slice (some ⟨bu, ou, none⟩) 2 cu)
    have HBz : Hid (Below w.heap.size w ((((wuC.setCell ⟨gU, 0, none⟩ (.int .i64 mu)).setCell ⟨gU, 1, none⟩ (.int .i64 nu)).setCell ⟨gU, 2, none⟩ (.slice qu ku ju)).setCell ⟨gU, 3, none⟩ (.slice (some ⟨bu, ou, none⟩) 2 cu))) := HB21.out.grown hG HB21.out.size (fun q hq => by obtain rfl := Option.some.inj hq; omega)
    have hne0 : (some (⟨b, off, none⟩ : Addr).block : Option Nat) ≠ some gU := by
      intro e
      have e : b = gU := Option.some.inj e
      subst e
      exact (zreg_cells HC21_4.out off).1 _ HF21_0.out.1
    have HFz_0 : Hid (((((wuC.setCell ⟨gU, 0, none⟩ (.int .i64 mu)).setCell ⟨gU, 1, none⟩ (.int .i64 nu)).setCell ⟨gU, 2, none⟩ (.slice qu ku ju)).setCell ⟨gU, 3, none⟩ (.slice (some ⟨bu, ou, none⟩) 2 cu)).cell? ⟨b, off, none⟩ = some (.string ⟨#[101, 120, 116, 114, 97]⟩) ∧ (⟨b, off, none⟩ : Addr).block < ((((wuC.setCell ⟨gU, 0, none⟩ (.int .i64 mu)).setCell ⟨gU, 1, none⟩ (.int .i64 nu)).setCell ⟨gU, 2, none⟩ (.slice qu ku ju)).setCell ⟨gU, 3, none⟩ (.slice (some ⟨bu, ou, none⟩) 2 cu)).heap.size) := ⟨hG.cell HF21_0.out.1 hne0, Nat.lt_of_lt_of_le HF21_0.out.2 hG.size⟩
    clear hne0
    have hne1 : (some (⟨bu, ou + 15, none⟩ : Addr).block : Option Nat) ≠ some gU := by
      intro e
      have e : bu = gU := Option.some.inj e
      subst e
      have h1 := HU15.out.1
      rw [zreg_no HC21_4.out (by omega)] at h1
      cases h1
    have HFz_1 : Hid (((((wuC.setCell ⟨gU, 0, none⟩ (.int .i64 mu)).setCell ⟨gU, 1, none⟩ (.int .i64 nu)).setCell ⟨gU, 2, none⟩ (.slice qu ku ju)).setCell ⟨gU, 3, none⟩ (.slice (some ⟨bu, ou, none⟩) 2 cu)).cell? ⟨bu, ou + 15, none⟩ = some (.int .i64 4) ∧ (⟨bu, ou + 15, none⟩ : Addr).block < ((((wuC.setCell ⟨gU, 0, none⟩ (.int .i64 mu)).setCell ⟨gU, 1, none⟩ (.int .i64 nu)).setCell ⟨gU, 2, none⟩ (.slice qu ku ju)).setCell ⟨gU, 3, none⟩ (.slice (some ⟨bu, ou, none⟩) 2 cu)).heap.size) := ⟨hG.cell HU15.out.1 hne1, Nat.lt_of_lt_of_le HU15.out.2 hG.size⟩
    clear hne1
    have hne2 : (some (⟨bu, ou + 10, none⟩ : Addr).block : Option Nat) ≠ some gU := by
      intro e
      have e : bu = gU := Option.some.inj e
      subst e
      have h1 := HU10.out.1
      rw [zreg_no HC21_4.out (by omega)] at h1
      cases h1
    have HFz_2 : Hid (((((wuC.setCell ⟨gU, 0, none⟩ (.int .i64 mu)).setCell ⟨gU, 1, none⟩ (.int .i64 nu)).setCell ⟨gU, 2, none⟩ (.slice qu ku ju)).setCell ⟨gU, 3, none⟩ (.slice (some ⟨bu, ou, none⟩) 2 cu)).cell? ⟨bu, ou + 10, none⟩ = some (.int .i64 9) ∧ (⟨bu, ou + 10, none⟩ : Addr).block < ((((wuC.setCell ⟨gU, 0, none⟩ (.int .i64 mu)).setCell ⟨gU, 1, none⟩ (.int .i64 nu)).setCell ⟨gU, 2, none⟩ (.slice qu ku ju)).setCell ⟨gU, 3, none⟩ (.slice (some ⟨bu, ou, none⟩) 2 cu)).heap.size) := ⟨hG.cell HU10.out.1 hne2, Nat.lt_of_lt_of_le HU10.out.2 hG.size⟩
    clear hne2
    have HCz_0 : Hid (CellsAt ((((wuC.setCell ⟨gU, 0, none⟩ (.int .i64 mu)).setCell ⟨gU, 1, none⟩ (.int .i64 nu)).setCell ⟨gU, 2, none⟩ (.slice qu ku ju)).setCell ⟨gU, 3, none⟩ (.slice (some ⟨bu, ou, none⟩) 2 cu)) gA 27 #[.int .i64 ma, .int .i64 mi, .slice q lk j, .slice (some ⟨b, off, none⟩) 3 c]) := HC21_0.out.kept hG (by intro e; have := Option.some.inj e; omega)
    have HCz_1 : Hid (CellsAt ((((wuC.setCell ⟨gU, 0, none⟩ (.int .i64 mu)).setCell ⟨gU, 1, none⟩ (.int .i64 nu)).setCell ⟨gU, 2, none⟩ (.slice qu ku ju)).setCell ⟨gU, 3, none⟩ (.slice (some ⟨bu, ou, none⟩) 2 cu)) gB 27 #[.int .i64 mb, .int .i64 nb, .slice qb kb jb, .slice xb 1 cb]) := HC21_1.out.kept hG (by intro e; have := Option.some.inj e; omega)
    have HCz_2 : Hid (CellsAt ((((wuC.setCell ⟨gU, 0, none⟩ (.int .i64 mu)).setCell ⟨gU, 1, none⟩ (.int .i64 nu)).setCell ⟨gU, 2, none⟩ (.slice qu ku ju)).setCell ⟨gU, 3, none⟩ (.slice (some ⟨bu, ou, none⟩) 2 cu)) gS 27 #[.int .i64 ms, .int .i64 ns, .slice qs ks js, .slice xs ls cs]) := HC21_2.out.kept hG (by intro e; have := Option.some.inj e; omega)
    have HCz_3 : Hid (CellsAt ((((wuC.setCell ⟨gU, 0, none⟩ (.int .i64 mu)).setCell ⟨gU, 1, none⟩ (.int .i64 nu)).setCell ⟨gU, 2, none⟩ (.slice qu ku ju)).setCell ⟨gU, 3, none⟩ (.slice (some ⟨bu, ou, none⟩) 2 cu)) gM 31 #[.string ⟨#[108, 105, 98]⟩, .int .i64 1, .int .i64 9, .string ⟨#[97, 98, 99, 100, 101, 102, 103, 104]⟩, .slice le 1 lke, .slice none 0 0, .slice none 0 0]) := HC21_3.out.kept hG (by intro e; have := Option.some.inj e; omega)
    have HCz_4 : Hid (CellsAt ((((wuC.setCell ⟨gU, 0, none⟩ (.int .i64 mu)).setCell ⟨gU, 1, none⟩ (.int .i64 nu)).setCell ⟨gU, 2, none⟩ (.slice qu ku ju)).setCell ⟨gU, 3, none⟩ (.slice (some ⟨bu, ou, none⟩) 2 cu)) gU 27 #[.int .i64 mu, .int .i64 nu, .slice qu ku ju, .slice (some ⟨bu, ou, none⟩) 2 cu]) := sets4 HC21_4.out _ _ _ _
    clear hG z0 z1 z2 z3 f0 f1 f2 f3 zl HB21 HF21_0 HU15 HU10 HC21_0 HC21_1 HC21_2 HC21_3 HC21_4
    refine hK.out _ _ HCz_3.out (fun _ => ?_)
    clear hK Kq
    generalize ((((wuC.setCell ⟨gU, 0, none⟩ (.int .i64 mu)).setCell ⟨gU, 1, none⟩ (.int .i64 nu)).setCell ⟨gU, 2, none⟩ (.slice qu ku ju)).setCell ⟨gU, 3, none⟩ (.slice (some ⟨bu, ou, none⟩) 2 cu)) = wz at *
    refine wpL_last (x := 8) rfl (by kernel_rfl) (by kernel_rfl) (fun Kq hK => ?_)
    go_simp
    refine hK.out _ _ ?_
    refine NoPanic.normal ?_
    clear hK Kq
    have ygA := CellsAt.cell HCz_0.out 3
    have ylgA := CellsAt.lt HCz_0.out
    have ygB := CellsAt.cell HCz_1.out 3
    have ylgB := CellsAt.lt HCz_1.out
    have ygU := CellsAt.cell HCz_4.out 3
    have ylgU := CellsAt.lt HCz_4.out
    simp at ygA ygB ygU
    obtain ⟨x0, xl0⟩ := HFz_0.out
    obtain ⟨x1, xl1⟩ := HFz_1.out
    obtain ⟨x2, xl2⟩ := HFz_2.out
    dsimp only at xl0 xl1 xl2
    go_wp2
    go_ret
    exact ⟨rfl, HBz.out⟩

end Go.Proofs.YtlpnfbpgnfappaaGreat

/- What becomes of registries that are right, as data. -/
namespace Go.Proofs.YtlpnfbpgnfappaaGreat
open Go.RowKit Go.PlainAid Go.Lib

theorem rg_reg {K : Ker} {L : List Plc} (h : chkRg K L = 0) : chkReg L = 0 := (chkLink_zero (chkRg_zero h).1).2.1
/-- None lies in the way of another one. -/
theorem ok_apart : ∀ {L : List Plc} {e : Int} {j : Nat} {p : Plc}, okPl e L → L[j]? = some p → ∀ q ∈ L.eraseIdx j, q.first + szM q.mod ≤ p.first ∨ p.first + szM p.mod ≤ q.first
  | [], _, j, p, _, h => by simp at h
  | x :: r, e, 0, p, ho, h => by
    obtain ⟨h1, h2, h3, h4⟩ := ho
    obtain rfl : x = p := by simpa using h
    intro q hq
    exact .inr (okPl_first h4 q hq).1
  | x :: r, e, j + 1, p, ho, h => by
    obtain ⟨h1, h2, h3, h4⟩ := ho
    have h' : r[j]? = some p := by simpa using h
    intro q hq
    rw [List.eraseIdx_cons_succ] at hq
    rcases List.mem_cons.1 hq with rfl | hq
    · exact .inl (okPl_first h4 p (List.mem_of_getElem? h')).1
    · exact ok_apart h4 h' q hq
/-- The document's way to tell whether there is room where another one was. -/
theorem room_doc {L : List Plc} {j : Nat} {p : Plc} {many : Int} (h0 : chkReg L = 0) (hp : L[j]? = some p) (hm : 1 ≤ many) :
    ((runsFrom 0 (L.eraseIdx j)).any fun r => decide (r.1 ≤ p.first) && decide (p.first + many ≤ r.1 + r.2)) = true ↔ (p.first + many ≤ 16 ∧ ∀ q ∈ L.eraseIdx j, ¬ (p.first < q.first ∧ q.first < p.first + many)) := by
  have ho := (chkReg_zero.1 h0).2.2
  have hf := okPl_first ho p (List.mem_of_getElem? hp)
  refine room_runs hm (ok_less j ho) hf.1 (fun q hq => ?_)
  rcases ok_apart ho hp q hq with g | g
  · exact .inl g
  · exact .inr (by omega)

end Go.Proofs.YtlpnfbpgnfappaaGreat

/- The contract of the statements' without: one of a row of placed modules is left out. -/
namespace Go.Proofs.YtlpnfbpgnfappaaGreat
open Go.RowKit Go.PlainAid Go.Lib

set_option maxRecDepth 100000

theorem erase_step {α : Type} (l : List α) (n k : Nat) (x : α) (hx : l[k]? = some x) : (l.take (k + 1)).eraseIdx n = if k = n then (l.take k).eraseIdx n else (l.take k).eraseIdx n ++ [x] := by
  have hk := (List.getElem?_eq_some_iff.1 hx).1
  have h1 : l.take (k + 1) = l.take k ++ [x] := by rw [List.take_add_one, hx]; rfl
  have hl : (l.take k).length = k := by rw [List.length_take]; omega
  rw [h1]
  split
  · rename_i h
    subst h
    rw [List.eraseIdx_append_of_length_le (by omega), hl, Nat.sub_self, List.eraseIdx_of_length_le (l := l.take k) (by omega)]
    simp
  · rename_i h
    by_cases h2 : n < k
    · rw [List.eraseIdx_append_of_lt_length (by omega)]
    · rw [List.eraseIdx_of_length_le (l := l.take k) (by omega), List.eraseIdx_of_length_le (by simp; omega)]

set_option maxHeartbeats 4000000 in
theorem without_any (l : List PV) (v : Value) (n : Nat) (w : World) (h : IsPlcs w.heap.size w v l) (hl : l.length ≤ 255) :
    Calls Tryz.prog 55 #[v, .int .i64 n] w fun e w' => (∃ v', e = .returned v' ∧ IsPlcs w'.heap.size w' v' (l.eraseIdx n)) ∧ Below w.heap.size w w' := by
  obtain ⟨ii, hii, hz0, hz1, hz2⟩ := infoPlc_parts
  have HAT : Hid (∀ x ∈ l, PlcAt w.heap.size w x) := h.2
  obtain ⟨⟨a, cap, rfl, -, hrow⟩, -⟩ := h
  go_enter Tryz.func55, Tryz.ntmps55
  go_wp2_with fail
  go_loopw [5, 6] (fun o i wr => ∃ (k : Nat) (acc : List PV), k ≤ l.length ∧ i = .int .i64 k ∧ Hid (acc = (l.take k).eraseIdx n) ∧ wr.ownsRow w.heap.size 57 8 o acc.length (acc.flatMap pvC) ∧ Below w.heap.size w wr) (fun _ i _ => l.length - (intOf i).toNat)
  case atStart => exact ⟨0, [], Nat.zero_le _, rfl, rfl, ⟨rfl, .inl ⟨rfl, rfl⟩⟩, Below.refl _ _⟩
  case round =>
    obtain ⟨k, acc, hk, rfl, HACC, hown, B⟩ := hrel
    have hacl : acc.length ≤ k := by
      rw [HACC.out]
      exact Nat.le_trans (List.length_eraseIdx_le _ _) (by simp; omega)
    have HAL : Hid (acc.length ≤ k) := hacl
    by_cases hlt : k < l.length
    · obtain ⟨x, hx⟩ : ∃ x, l[k]? = some x := ⟨_, List.getElem?_eq_getElem hlt⟩
      have HST : Hid _ := erase_step l n k x hx
      rcases hrow with h | ⟨b, off, rfl, hbn, hcells⟩
      · subst h; simp at hlt
      have hkl : (k : Int) < (l.length : Int) := by omega
      by_cases hkn : k = n
      · subst hkn
        have hne : ((k : Int) != (k : Int)) = false := by simp
        have HA2 : Hid (acc = (l.take (k + 1)).eraseIdx k) := by
          show acc = _
          rw [HST.out, if_pos rfl]; exact HACC.out
        clear HST HACC hcells
        have HOW : Hid _ := hown
        clear hown
        go_wp2_with fail
        exact ⟨⟨k + 1, acc, by omega, by go_num, HA2.out, HOW.out, B⟩, by simp [intOf]; omega⟩
      · have hne : ((k : Int) != (n : Int)) = true := by simp; omega
        have HA2 : Hid (acc ++ [x] = (l.take (k + 1)).eraseIdx n) := by
          show acc ++ [x] = _
          rw [HST.out, if_neg hkn, HACC.out]
        have c0 := (B.cell (p := ⟨b, off + k * 8 + 0, none⟩) hbn).trans (hcells k x hx 0 (by omega))
        have c1 := (B.cell (p := ⟨b, off + k * 8 + 1, none⟩) hbn).trans (hcells k x hx 1 (by omega))
        have c2 := (B.cell (p := ⟨b, off + k * 8 + 2, none⟩) hbn).trans (hcells k x hx 2 (by omega))
        have c3 := (B.cell (p := ⟨b, off + k * 8 + 3, none⟩) hbn).trans (hcells k x hx 3 (by omega))
        have c4 := (B.cell (p := ⟨b, off + k * 8 + 4, none⟩) hbn).trans (hcells k x hx 4 (by omega))
        have c5 := (B.cell (p := ⟨b, off + k * 8 + 5, none⟩) hbn).trans (hcells k x hx 5 (by omega))
        have c6 := (B.cell (p := ⟨b, off + k * 8 + 6, none⟩) hbn).trans (hcells k x hx 6 (by omega))
        have c7 := (B.cell (p := ⟨b, off + k * 8 + 7, none⟩) hbn).trans (hcells k x hx 7 (by omega))
        have hpx := HAT.out x (List.mem_of_getElem? hx)
        obtain ⟨⟨pe, ke, e4, -⟩, ⟨pi, ki, e5, -⟩, ⟨pp, kp, e6, -⟩⟩ := hpx
        have HXC : Hid ((acc ++ [x]).flatMap pvC = acc.flatMap pvC ++ pvC x) := by
          show _ = _
          rw [List.flatMap_append]; simp
        obtain ⟨⟨N, xa, xi, T, es, is, ps⟩, vxe, vxi, vxp, fi⟩ := x
        dsimp only at e4 e5 e6
        subst e4 e5 e6
        dsimp only [PV.cell] at c0 c1 c2 c3 c4 c5 c6 c7
        rw [Nat.add_zero] at c0
        clear hcells hx HST HACC
        have HXC2 : Hid (pvC ⟨⟨N, xa, xi, T, es, is, ps⟩, .slice pe es.length ke, .slice pi is.length ki, .slice pp ps.length kp, fi⟩ = [.string N, .int .i64 xa, .int .i64 xi, .string T, .slice pe es.length ke, .slice pi is.length ki, .slice pp ps.length kp, .int .i64 fi]) := rfl
        generalize hle : es.length = le at *
        generalize hli : is.length = li at *
        generalize hlp : ps.length = lp at *
        obtain ⟨av, kv, rfl⟩ := own_form hown
        have hbs : w.heap.size ≤ wr.heap.size := B.size
        generalize ham : acc.length = m at *
        have HAM : Hid (acc.length = m) := ham
        clear ham
        have ha7 : m ≤ 255 := by omega
        go_wp2_with (at_builtin; refine wpList_append_lies _ rfl _ _ _ rfl w.heap.size 57 ii _ 8 128 Tryz.underlying25 hii hz0 hz1 hz2 rfl (by omega) (.slice av m kv) m (acc.flatMap pvC) rfl (hown.alloc _) ⟨wr.heap.size, 0, none⟩ 1 1 [.string N, .int .i64 xa, .int .i64 xi, .string T, .slice pe le ke, .slice pi li ki, .slice pp lp kp, .int .i64 fi] rfl rfl (World.news_of_block (cs := #[.string N, .int .i64 xa, .int .i64 xi, .string T, .slice pe le ke, .slice pi li ki, .slice pp lp kp, .int .i64 fi]) (t := 57) (fr := (0, 0)) (CellsAt.new wr 57 #[.string N, .int .i64 xa, .int .i64 xi, .string T, .slice pe le ke, .slice pi li ki, .slice pp lp kp, .int .i64 fi])) (by simp [Value.oneCell']) (by omega) (by unfold maxLen; omega) (by omega) (by simp; omega) (wr.heap.size + 1) (by simp) ?_; intro g gc w8 hown8 hgrow hat8 hltg)
        refine ⟨⟨k + 1, _, by omega, by go_num, HA2.out, ?_, ?_⟩, by simp [intOf]; omega⟩
        · rw [List.length_append, HXC.out, HXC2.out, HAM.out]
          exact hown8
        · exact (B.alloc B.size _).grown hgrow (by simp; omega) (fun j hj => own_block hown j hj)
    · obtain rfl : k = l.length := by omega
      have HA2 : Hid (acc = l.eraseIdx n) := by
        show acc = _
        rw [HACC.out, List.take_length]
      have hlt' : ¬ ((l.length : Int) < (l.length : Int)) := by omega
      have HOW : Hid _ := hown
      clear hown
      go_wp2
      go_ret
      refine ⟨⟨_, rfl, ?_⟩, B⟩
      rw [← HA2.out]
      refine ⟨own_rows (C := pvC) (cells := PV.cell) (sz := 8) (fun _ => rfl) pvC_at HOW.out (by omega), fun x hx => ?_⟩
      rw [HA2.out] at hx
      exact ((HAT.out x (List.mem_of_mem_eraseIdx hx)).below B).more B.size

end Go.Proofs.YtlpnfbpgnfappaaGreat
