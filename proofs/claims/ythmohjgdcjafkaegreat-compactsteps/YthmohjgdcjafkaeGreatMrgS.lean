/- Texts that are laid together. -/
import Derived.Test.YthmohjgdcjafkaeGreatMrgC
import Derived.Test.YthmohjgdcjafkaeGreatMrgR
import Derived.Lib.QuietBelow

/- The contracts of the document's SameExports and SameModule: where both are the same. -/
namespace Go.Proofs.YthmohjgdcjafkaeGreat
open Go.RowKit Go.PlainAid

set_option maxHeartbeats 1000000 in
theorem sameExports_yes (l : List Exp) (v v' : Value) (w : World) (h1 : RowOf 2 Exp.cell w.heap.size w v l) (h2 : RowOf 2 Exp.cell w.heap.size w v' l) :
    Calls Tryz.prog 59 #[v, v'] w fun e w' => e = .returned (.bool true) ∧ ∃ q, w' = w.drewN q := by
  obtain ⟨a, cap, rfl, hz, h1⟩ := h1
  obtain ⟨a', cap', rfl, _, h2⟩ := h2
  have hne : ((l.length : Int) != (l.length : Int)) = false := by simp
  go_enter Tryz.func59, Tryz.ntmps59
  go_wp2
  go_loopw [5] (fun i wr => ∃ (k : Nat), k ≤ l.length ∧ i = .int .i64 k ∧ Hid (∃ q, wr = w.drewN q)) (fun i _ => l.length - (intOf i).toNat)
  case atStart => exact ⟨0, Nat.zero_le _, rfl, (⟨0, rfl⟩ : ∃ q, w = w.drewN q)⟩
  case round =>
    obtain ⟨k, hk, rfl, HQ⟩ := hrel
    by_cases hlt : k < l.length
    · obtain ⟨p, hp⟩ : ∃ p, l[k]? = some p := ⟨_, List.getElem?_eq_getElem hlt⟩
      rcases h1 with h | ⟨b, off, rfl, hbn, hc⟩
      · subst h; simp at hlt
      rcases h2 with h | ⟨b', off', rfl, hbn', hc'⟩
      · subst h; simp at hlt
      have hcl : ∀ p, wr.cell? p = w.cell? p := fun p => by obtain ⟨q, hq⟩ := HQ.out; rw [hq]; simp
      have c0 := (hcl _).trans (hc k _ hp 0 (by omega))
      have c1 := (hcl _).trans (hc k _ hp 1 (by omega))
      have d0 := (hcl _).trans (hc' k _ hp 0 (by omega))
      have d1 := (hcl _).trans (hc' k _ hp 1 (by omega))
      obtain ⟨n, A⟩ := p
      dsimp only [Exp.cell] at c0 c1 d0 d1
      rw [Nat.add_zero] at c0 d0
      clear hcl hc hc' hp
      go_wp2
      go_quiet (fail)
      go_wp2
      obtain ⟨q, hq⟩ := HQ.out
      exact ⟨⟨k + 1, by omega, by go_num, (⟨q + _, by rw [hq, World.drewN_drewN]⟩ : ∃ q, _ = w.drewN q)⟩, by simp [intOf]; omega⟩
    · go_wp2
      go_ret
      exact ⟨rfl, HQ.out⟩

set_option maxRecDepth 100000 in
set_option maxHeartbeats 2000000 in
theorem sameModule_yes (M : Mod) (v v' : Value) (w : World) (h : IsMod w.heap.size w v M) (h' : IsMod w.heap.size w v' M) :
    Calls Tryz.prog 28 #[v, v'] w fun e w' => e = .returned (.bool true) ∧ Below w.heap.size w w' := by
  obtain ⟨ve, vi, vp, rfl, hE, hI, hP⟩ := h
  obtain ⟨ve', vi', vp', rfl, hE', hI', hP'⟩ := h'
  obtain ⟨N, a, b, T, es, is, ps⟩ := M
  dsimp only at *
  have HE : Hid (∀ w', Below w.heap.size w w' → Calls Tryz.prog 59 #[ve, ve'] w' fun e w'' => e = .returned (.bool true) ∧ ∃ q, w'' = w'.drewN q) :=
    fun w' hb => sameExports_yes es ve ve' w' ((hE.below hb).more hb.size) ((hE'.below hb).more hb.size)
  obtain ⟨pe, ke, rfl, _, _⟩ := hE
  obtain ⟨pe', ke', rfl, _, _⟩ := hE'
  have HI : Hid (RowOf 4 Imp.cell w.heap.size w vi is) := hI
  have HI' : Hid (RowOf 4 Imp.cell w.heap.size w vi' is) := hI'
  have HP : Hid (RowOf 4 Pat.cell w.heap.size w vp ps) := hP
  have HP' : Hid (RowOf 4 Pat.cell w.heap.size w vp' ps) := hP'
  obtain ⟨pi, ki, rfl, _, _⟩ := hI
  obtain ⟨pi', ki', rfl, _, _⟩ := hI'
  obtain ⟨pp, kp, rfl, _, _⟩ := hP
  obtain ⟨pp', kp', rfl, _, _⟩ := hP'
  have n1 : ((is.length : Int) != (is.length : Int)) = false := by simp
  have n2 : ((ps.length : Int) != (ps.length : Int)) = false := by simp
  have HW : Hid (Below w.heap.size w ((w.alloc (.cells #[.string N, .int .i64 a, .int .i64 b, .string T, .slice pe es.length ke, .slice pi is.length ki, .slice pp ps.length kp] 31)).alloc (.cells #[.string N, .int .i64 a, .int .i64 b, .string T, .slice pe' es.length ke', .slice pi' is.length ki', .slice pp' ps.length kp'] 31))) :=
    ((Below.refl _ _).alloc (Nat.le_refl _) _).alloc (by simp) _
  go_enter Tryz.func28, Tryz.ntmps28
  go_wp2_with fail
  refine (HE.out _ HW.out).mono ?_
  rintro e w1 ⟨rfl, q, hq⟩
  have B1 : Below w.heap.size w w1 := by rw [hq]; exact below_drewN HW.out q
  have hcl : ∀ p, w1.cell? p = ((w.alloc (.cells #[.string N, .int .i64 a, .int .i64 b, .string T, .slice pe es.length ke, .slice pi is.length ki, .slice pp ps.length kp] 31)).alloc (.cells #[.string N, .int .i64 a, .int .i64 b, .string T, .slice pe' es.length ke', .slice pi' is.length ki', .slice pp' ps.length kp'] 31)).cell? p := fun p => by rw [hq]; simp
  have d5 := hcl ⟨w.heap.size, 5, none⟩
  have d6 := hcl ⟨w.heap.size, 6, none⟩
  have f5 := hcl ⟨w.heap.size + 1, 5, none⟩
  have f6 := hcl ⟨w.heap.size + 1, 6, none⟩
  have hz1 : w.heap.size + 1 < w1.heap.size := by rw [hq]; simp
  simp at d5 d6 f5 f6
  obtain ⟨_, _, e0, _, hI⟩ := (HI.out.below B1).more B1.size
  obtain ⟨_, _, e1, _, hI'⟩ := (HI'.out.below B1).more B1.size
  obtain ⟨_, _, e2, _, hP⟩ := (HP.out.below B1).more B1.size
  obtain ⟨_, _, e3, _, hP'⟩ := (HP'.out.below B1).more B1.size
  cases e0; cases e1; cases e2; cases e3
  clear hcl hq HE HI HI' HP HP' HW
  go_wp2
  go_loopw [5] (fun i wr => ∃ (k : Nat), k ≤ is.length ∧ i = .int .i64 k ∧ Below w1.heap.size w1 wr) (fun i _ => is.length - (intOf i).toNat)
  case atStart => exact ⟨0, Nat.zero_le _, rfl, Below.refl _ _⟩
  case round =>
    obtain ⟨k, hk, rfl, B⟩ := hrel
    have x5 := (B.cell (p := ⟨w.heap.size, 5, none⟩) (by simp; omega)).trans d5
    have y5 := (B.cell (p := ⟨w.heap.size + 1, 5, none⟩) (by simp; omega)).trans f5
    by_cases hlt : k < is.length
    · obtain ⟨p, hp⟩ : ∃ p, is[k]? = some p := ⟨_, List.getElem?_eq_getElem hlt⟩
      rcases hI with h | ⟨bb, off, rfl, hbn, hc⟩
      · subst h; simp at hlt
      rcases hI' with h | ⟨bb', off', rfl, hbn', hc'⟩
      · subst h; simp at hlt
      have c0 := (B.cell (p := ⟨bb, off + k * 4 + 0, none⟩) hbn).trans (hc k _ hp 0 (by omega))
      have c1 := (B.cell (p := ⟨bb, off + k * 4 + 1, none⟩) hbn).trans (hc k _ hp 1 (by omega))
      have c2 := (B.cell (p := ⟨bb, off + k * 4 + 2, none⟩) hbn).trans (hc k _ hp 2 (by omega))
      have c3 := (B.cell (p := ⟨bb, off + k * 4 + 3, none⟩) hbn).trans (hc k _ hp 3 (by omega))
      have g0 := (B.cell (p := ⟨bb', off' + k * 4 + 0, none⟩) hbn').trans (hc' k _ hp 0 (by omega))
      have g1 := (B.cell (p := ⟨bb', off' + k * 4 + 1, none⟩) hbn').trans (hc' k _ hp 1 (by omega))
      have g2 := (B.cell (p := ⟨bb', off' + k * 4 + 2, none⟩) hbn').trans (hc' k _ hp 2 (by omega))
      have g3 := (B.cell (p := ⟨bb', off' + k * 4 + 3, none⟩) hbn').trans (hc' k _ hp 3 (by omega))
      obtain ⟨m, n, va, vb⟩ := p
      dsimp only [Imp.cell] at c0 c1 c2 c3 g0 g1 g2 g3
      rw [Nat.add_zero] at c0 g0
      clear hc hc' hp hP hP' d6 f6
      go_wp2
      go_quiet (fail)
      go_wp2
      exact ⟨⟨k + 1, by omega, by go_num, below_drewN B _⟩, by simp [intOf]; omega⟩
    · clear hI hI'
      go_wp2
      go_loopw [6] (fun i wr2 => ∃ (k : Nat), k ≤ ps.length ∧ i = .int .i64 k ∧ Below w1.heap.size w1 wr2) (fun i _ => ps.length - (intOf i).toNat)
      case atStart => exact ⟨0, Nat.zero_le _, rfl, B⟩
      case round =>
        obtain ⟨j, hj, rfl, B2⟩ := hrel
        have x6 := (B2.cell (p := ⟨w.heap.size, 6, none⟩) (by simp; omega)).trans d6
        have y6 := (B2.cell (p := ⟨w.heap.size + 1, 6, none⟩) (by simp; omega)).trans f6
        by_cases hlt2 : j < ps.length
        · obtain ⟨p, hp⟩ : ∃ p, ps[j]? = some p := ⟨_, List.getElem?_eq_getElem hlt2⟩
          rcases hP with h | ⟨bb, off, rfl, hbn, hc⟩
          · subst h; simp at hlt2
          rcases hP' with h | ⟨bb', off', rfl, hbn', hc'⟩
          · subst h; simp at hlt2
          have c0 := (B2.cell (p := ⟨bb, off + j * 4 + 0, none⟩) hbn).trans (hc j _ hp 0 (by omega))
          have c1 := (B2.cell (p := ⟨bb, off + j * 4 + 1, none⟩) hbn).trans (hc j _ hp 1 (by omega))
          have c2 := (B2.cell (p := ⟨bb, off + j * 4 + 2, none⟩) hbn).trans (hc j _ hp 2 (by omega))
          have c3 := (B2.cell (p := ⟨bb, off + j * 4 + 3, none⟩) hbn).trans (hc j _ hp 3 (by omega))
          have g0 := (B2.cell (p := ⟨bb', off' + j * 4 + 0, none⟩) hbn').trans (hc' j _ hp 0 (by omega))
          have g1 := (B2.cell (p := ⟨bb', off' + j * 4 + 1, none⟩) hbn').trans (hc' j _ hp 1 (by omega))
          have g2 := (B2.cell (p := ⟨bb', off' + j * 4 + 2, none⟩) hbn').trans (hc' j _ hp 2 (by omega))
          have g3 := (B2.cell (p := ⟨bb', off' + j * 4 + 3, none⟩) hbn').trans (hc' j _ hp 3 (by omega))
          obtain ⟨K, A, S, D⟩ := p
          dsimp only [Pat.cell] at c0 c1 c2 c3 g0 g1 g2 g3
          rw [Nat.add_zero] at c0 g0
          clear hc hc' hp
          go_wp2
          go_quiet (fail)
          go_wp2
          exact ⟨⟨j + 1, by omega, by go_num, below_drewN B2 _⟩, by simp [intOf]; omega⟩
        · clear hP hP'
          go_wp2
          go_ret
          exact ⟨rfl, B1.trans (B2.mono B1.size)⟩

end Go.Proofs.YthmohjgdcjafkaeGreat

/- The contracts of the document's SamePlaced and SameRegistry, where both are alike. -/
namespace Go.Proofs.YthmohjgdcjafkaeGreat
open Go.RowKit Go.PlainAid Go.Lib Go.Sort

set_option maxRecDepth 100000

theorem plc_at {l l' : List PV} (h : l.map PV.plc = l'.map PV.plc) {k : Nat} {x : PV} (hx : l[k]? = some x) : ∃ y, l'[k]? = some y ∧ x.mod = y.mod ∧ x.first = y.first := by
  have h1 : (l.map PV.plc)[k]? = some x.plc := by rw [List.getElem?_map, hx]; rfl
  rw [h, List.getElem?_map] at h1
  cases hy : l'[k]? with
  | none => rw [hy] at h1; cases h1
  | some y =>
    rw [hy] at h1
    have h2 : y.plc = x.plc := by simpa using h1
    unfold PV.plc at h2
    injection h2 with h3 h4
    exact ⟨y, rfl, h3.symm, h4.symm⟩

set_option maxHeartbeats 8000000 in
theorem samePlaced_yes (l l' : List PV) (v v' : Value) (w : World) (h1 : IsPlcs w.heap.size w v l) (h2 : IsPlcs w.heap.size w v' l') (he : l.map PV.plc = l'.map PV.plc) :
    Calls Tryz.prog 60 #[v, v'] w fun e w' => e = .returned (.bool true) ∧ Below w.heap.size w w' := by
  have hln : l.length = l'.length := by have := congrArg List.length he; simpa using this
  obtain ⟨⟨a, cap, rfl, hmax, hrow⟩, hat⟩ := h1
  obtain ⟨⟨a', cap', rfl, hmax', hrow'⟩, hat'⟩ := h2
  rw [← hln]
  clear hln hmax'
  have hne : ((l.length : Int) != (l.length : Int)) = false := by simp
  go_enter Tryz.func60, Tryz.ntmps60
  go_wp2
  go_loopg [5] l.length (fun gk i wr => ∃ (k : Nat), Hid (gk = l.length - k) ∧ k ≤ l.length ∧ i = .int .i64 k ∧ Hid (Below w.heap.size w wr))
  case atStart => exact ⟨0, (rfl : l.length = l.length - 0), Nat.zero_le _, rfl, Below.refl _ _⟩
  case round =>
    obtain ⟨k, HGK, hk, rfl, HB⟩ := hrel
    have B := HB.out
    clear HB
    by_cases hlt : k < l.length
    · obtain ⟨x, hx⟩ : ∃ x, l[k]? = some x := ⟨_, List.getElem?_eq_getElem hlt⟩
      obtain ⟨y, hy, hmod, hfst⟩ := plc_at he hx
      rcases hrow with h | ⟨b, off, rfl, hbn, hcells⟩
      · subst h; simp at hlt
      rcases hrow' with h | ⟨b', off', rfl, hbn', hcells'⟩
      · subst h; simp at hy
      have px := ((hat x (List.mem_of_getElem? hx)).below B).more B.size
      have py := ((hat' y (List.mem_of_getElem? hy)).below B).more B.size
      have HS : Hid (∀ d os, Calls Tryz.prog 28 #[x.modV, y.modV] (grow (redrawn wr d) os) fun e w' => e = .returned (.bool true) ∧ Below (grow (redrawn wr d) os).heap.size (grow (redrawn wr d) os) w') := fun d os => by
        have hb := below_regrown wr d os
        have q1 := ((px.below hb).more hb.size).isMod
        have q2 := ((py.below hb).more hb.size).isMod
        rw [hmod] at q1
        exact sameModule_yes y.mod _ _ _ q1 q2
      have c0 := (B.cell (p := ⟨b, off + k * 8 + 0, none⟩) hbn).trans (hcells k x hx 0 (by omega))
      have c1 := (B.cell (p := ⟨b, off + k * 8 + 1, none⟩) hbn).trans (hcells k x hx 1 (by omega))
      have c2 := (B.cell (p := ⟨b, off + k * 8 + 2, none⟩) hbn).trans (hcells k x hx 2 (by omega))
      have c3 := (B.cell (p := ⟨b, off + k * 8 + 3, none⟩) hbn).trans (hcells k x hx 3 (by omega))
      have c4 := (B.cell (p := ⟨b, off + k * 8 + 4, none⟩) hbn).trans (hcells k x hx 4 (by omega))
      have c5 := (B.cell (p := ⟨b, off + k * 8 + 5, none⟩) hbn).trans (hcells k x hx 5 (by omega))
      have c6 := (B.cell (p := ⟨b, off + k * 8 + 6, none⟩) hbn).trans (hcells k x hx 6 (by omega))
      have c7 := (B.cell (p := ⟨b, off + k * 8 + 7, none⟩) hbn).trans (hcells k x hx 7 (by omega))
      have d0 := (B.cell (p := ⟨b', off' + k * 8 + 0, none⟩) hbn').trans (hcells' k y hy 0 (by omega))
      have d1 := (B.cell (p := ⟨b', off' + k * 8 + 1, none⟩) hbn').trans (hcells' k y hy 1 (by omega))
      have d2 := (B.cell (p := ⟨b', off' + k * 8 + 2, none⟩) hbn').trans (hcells' k y hy 2 (by omega))
      have d3 := (B.cell (p := ⟨b', off' + k * 8 + 3, none⟩) hbn').trans (hcells' k y hy 3 (by omega))
      have d4 := (B.cell (p := ⟨b', off' + k * 8 + 4, none⟩) hbn').trans (hcells' k y hy 4 (by omega))
      have d5 := (B.cell (p := ⟨b', off' + k * 8 + 5, none⟩) hbn').trans (hcells' k y hy 5 (by omega))
      have d6 := (B.cell (p := ⟨b', off' + k * 8 + 6, none⟩) hbn').trans (hcells' k y hy 6 (by omega))
      have d7 := (B.cell (p := ⟨b', off' + k * 8 + 7, none⟩) hbn').trans (hcells' k y hy 7 (by omega))
      obtain ⟨⟨pe, ke, e4, _⟩, ⟨pi, ki, e5, _⟩, ⟨pp, kp, e6, _⟩⟩ := px
      obtain ⟨⟨pe', ke', e4', _⟩, ⟨pi', ki', e5', _⟩, ⟨pp', kp', e6', _⟩⟩ := py
      obtain ⟨⟨N, xa, xi, T, es, is, ps⟩, ve, vi, vp, fi⟩ := x
      obtain ⟨⟨N', xa', xi', T', es', is', ps'⟩, ve', vi', vp', fi'⟩ := y
      dsimp only at e4 e5 e6 e4' e5' e6' hfst
      subst e4 e5 e6 e4' e5' e6' hfst
      dsimp only [PV.cell] at c0 c1 c2 c3 c4 c5 c6 c7 d0 d1 d2 d3 d4 d5 d6 d7
      dsimp only [PV.modV] at HS
      rw [Nat.add_zero] at c0 d0
      clear hcells hcells' hx hy hat hat' hmod he
      generalize es.length = le at *
      generalize is.length = li at *
      generalize ps.length = lp at *
      generalize es'.length = le' at *
      generalize is'.length = li' at *
      generalize ps'.length = lp' at *
      have t0 := cell_regrown c0
      have t1 := cell_regrown c1
      have t2 := cell_regrown c2
      have t3 := cell_regrown c3
      have t4 := cell_regrown c4
      have t5 := cell_regrown c5
      have t6 := cell_regrown c6
      have t7 := cell_regrown c7
      have s0 := cell_regrown d0
      have s1 := cell_regrown d1
      have s2 := cell_regrown d2
      have s3 := cell_regrown d3
      have s4 := cell_regrown d4
      have s5 := cell_regrown d5
      have s6 := cell_regrown d6
      have s7 := cell_regrown d7
      clear c0 c1 c2 c3 c4 c5 c6 c7 d0 d1 d2 d3 d4 d5 d6 d7
      have hff : (fi != fi) = false := by simp
      have hbd : l.length ≤ 9223372036854775807 := hmax
      have hkl' : (k : Int) < (l.length : Int) := by omega
      go_wp2_with fail
      refine wp_region_quiet_below (by kernel_rfl) (by kernel_rfl) ?_
      repeat (quiet_step ((go_at_call 28; go_must (exact Calls.regrown_of (HS.out _ _)))))
      refine wpQuiet_nil ?_
      intro _ hw'
      obtain ⟨⟨dq, osq⟩, hw''⟩ := hw'
      have B5 := B.trans ((below_regrown wr dq osq).mono B.size)
      rw [← hw''] at B5
      clear hw'' t0 t1 t2 t3 t4 t5 t6 t7 s0 s1 s2 s3 s4 s5 s6 s7 HS
      have HB5 : Hid (Below w.heap.size w _) := B5
      clear B5 B
      go_wp2_with fail
      go_roundg (l.length - (k + 1))
      case measure =>
        have := HGK.out
        omega
      case rel => exact ⟨k + 1, (rfl : l.length - (k + 1) = l.length - (k + 1)), by omega, by go_num, HB5⟩
    · go_wp2
      go_ret
      exact ⟨rfl, B⟩

set_option maxHeartbeats 8000000 in
theorem sameReg_yes (K : Ker) (l l' : List PV) (v v' : Value) (w : World) (h1 : IsReg w.heap.size w v K l) (h2 : IsReg w.heap.size w v' K l') (he : l.map PV.plc = l'.map PV.plc) :
    Calls Tryz.prog 21 #[v, v'] w fun e w' => e = .returned (.bool true) ∧ Below w.heap.size w w' := by
  obtain ⟨ve, vl, rfl, hE, hL⟩ := h1
  obtain ⟨ve', vl', rfl, hE', hL'⟩ := h2
  have HX : Hid (∀ W, Below w.heap.size w W → Calls Tryz.prog 59 #[ve, ve'] W fun e w'' => e = .returned (.bool true) ∧ Below W.heap.size W w'') := fun W hb => by
    refine (sameExports_yes K.exps ve ve' W ((hE.below hb).more hb.size) ((hE'.below hb).more hb.size)).mono ?_
    rintro e w' ⟨h, q, rfl⟩
    exact ⟨h, below_drewN (Below.refl _ _) q⟩
  have HP : Hid (∀ W, Below w.heap.size w W → Calls Tryz.prog 60 #[vl, vl'] W fun e w'' => e = .returned (.bool true) ∧ Below W.heap.size W w'') := fun W hb => samePlaced_yes l l' vl vl' W ((hL.below hb).more hb.size) ((hL'.below hb).more hb.size) he
  obtain ⟨a, c, rfl, _, _⟩ := hE
  obtain ⟨a', c', rfl, _, _⟩ := hE'
  obtain ⟨⟨q, r, rfl, _, _⟩, _⟩ := hL
  obtain ⟨⟨q', r', rfl, _, _⟩, _⟩ := hL'
  obtain ⟨ma, mi, ks⟩ := K
  dsimp only at *
  clear he
  generalize ks.length = nk at *
  generalize l.length = nl at *
  generalize l'.length = nl' at *
  have hma : (ma == ma) = true := by simp
  have hmi : (mi == mi) = true := by simp
  have HB1 : Hid (Below w.heap.size w ((w.alloc (.cells #[.int .i64 ma, .int .i64 mi, .slice a nk c, .slice q nl r] 27)).alloc (.cells #[.int .i64 ma, .int .i64 mi, .slice a' nk c', .slice q' nl' r'] 27))) := ((Below.refl _ _).alloc (Nat.le_refl _) _).alloc (by simp) _
  have HC1 : Hid (CellsAt ((w.alloc (.cells #[.int .i64 ma, .int .i64 mi, .slice a nk c, .slice q nl r] 27)).alloc (.cells #[.int .i64 ma, .int .i64 mi, .slice a' nk c', .slice q' nl' r'] 27)) w.heap.size 27 #[.int .i64 ma, .int .i64 mi, .slice a nk c, .slice q nl r]) := (CellsAt.new _ _ _).kept (World.grownBy_alloc _ _ none) (by simp)
  have HD1 : Hid (CellsAt ((w.alloc (.cells #[.int .i64 ma, .int .i64 mi, .slice a nk c, .slice q nl r] 27)).alloc (.cells #[.int .i64 ma, .int .i64 mi, .slice a' nk c', .slice q' nl' r'] 27)) (w.heap.size + 1) 27 #[.int .i64 ma, .int .i64 mi, .slice a' nk c', .slice q' nl' r']) := by
    have := CellsAt.new (w.alloc (.cells #[.int .i64 ma, .int .i64 mi, .slice a nk c, .slice q nl r] 27)) 27 #[.int .i64 ma, .int .i64 mi, .slice a' nk c', .slice q' nl' r']
    rw [World.size_alloc] at this
    exact this
  go_enter Tryz.func21, Tryz.ntmps21
  go_wp2_with fail
  refine (HX.out _ HB1.out).mono ?_
  generalize ((w.alloc (.cells #[.int .i64 ma, .int .i64 mi, .slice a nk c, .slice q nl r] 27)).alloc (.cells #[.int .i64 ma, .int .i64 mi, .slice a' nk c', .slice q' nl' r'] 27)) = w1 at *
  rintro e w2 ⟨rfl, b2⟩
  have HB2 : Hid (Below w.heap.size w w2) := HB1.out.trans (b2.mono HB1.out.size)
  have HC2 : Hid (CellsAt w2 w.heap.size 27 #[.int .i64 ma, .int .i64 mi, .slice a nk c, .slice q nl r]) := HC1.out.below b2 HC1.out.lt
  have HD2 : Hid (CellsAt w2 (w.heap.size + 1) 27 #[.int .i64 ma, .int .i64 mi, .slice a' nk c', .slice q' nl' r']) := HD1.out.below b2 HD1.out.lt
  have c3 := CellsAt.cell HC2.out 3
  have d3 := CellsAt.cell HD2.out 3
  have lc := CellsAt.lt HC2.out
  have ld := CellsAt.lt HD2.out
  simp at c3 d3
  clear b2 HB1 HC1 HD1 HX
  go_wp2_with fail
  refine (HP.out _ HB2.out).mono ?_
  rintro e w3 ⟨rfl, b3⟩
  have HB3 : Hid (Below w.heap.size w w3) := HB2.out.trans (b3.mono HB2.out.size)
  clear b3 HP HB2 HC2 HD2 c3 d3 lc ld
  go_wp2
  go_ret
  exact ⟨rfl, HB3.out⟩

end Go.Proofs.YthmohjgdcjafkaeGreat

/- Contracts of compact's Step and Pack as registries; registryIs; what must be in any case, of compact. -/
namespace Go.Proofs.YthmohjgdcjafkaeGreat
open Go.RowKit Go.PlainAid Go.Lib

set_option maxRecDepth 100000

theorem OwnsReg.isReg {base : Nat} {W : World} {v : Value} {K : Ker} {l : List PV} (h : OwnsReg base W v K l) (hk : K.exps.length ≤ 255) (hl : l.length ≤ 255) (hm : ∀ x ∈ l, x.mod.exps.length ≤ 255 ∧ x.mod.imps.length ≤ 255 ∧ x.mod.pats.length ≤ 255) : IsReg W.heap.size W v K l := by
  obtain ⟨ve, vl, e, o1, o2, o3⟩ := h
  exact ⟨ve, vl, e, own_rows (C := expC) (cells := Exp.cell) (sz := 2) (fun _ => rfl) expC_at o1 (by omega), own_rows (C := pvC) (cells := PV.cell) (sz := 8) (fun _ => rfl) pvC_at o2 (by omega), plc_rows o3 hm⟩
theorem lens_mods {l l' : List PV} (h : l'.map (·.mod) = l.map (·.mod)) (hf : ∀ x ∈ l, x.mod.exps.length ≤ 255 ∧ x.mod.imps.length ≤ 255 ∧ x.mod.pats.length ≤ 255) : ∀ x ∈ l', x.mod.exps.length ≤ 255 ∧ x.mod.imps.length ≤ 255 ∧ x.mod.pats.length ≤ 255 := fun x hx => by
  have : x.mod ∈ l'.map (·.mod) := List.mem_map_of_mem hx
  rw [h] at this
  obtain ⟨y, hy, e⟩ := List.mem_map.1 this
  rw [← e]
  exact hf y hy
theorem plc_mods {l l' : List PV} {L : List Plc} (h : l'.map PV.plc = L) (hL : L.map (·.mod) = (l.map PV.plc).map (·.mod)) : l'.map (·.mod) = l.map (·.mod) := by
  have h1 := congrArg (List.map fun p : Plc => p.mod) h
  rw [hL, List.map_map, List.map_map] at h1
  exact h1
theorem stepRes_mods (L : List Plc) : (stepRes L).1.map (·.mod) = L.map (·.mod) := by
  unfold stepRes
  cases hs : stepFrom 0 L with
  | none => rfl
  | some L' => exact (step_some hs).2.2
theorem pack_mods : ∀ (L : List Plc) (e : Int), (packFrom e L).map (·.mod) = L.map (·.mod)
  | [], _ => rfl
  | p :: r, e => by
    show p.mod :: _ = p.mod :: _
    rw [pack_mods r]

theorem stepAns_reg {K : Ker} {l l' : List PV} {base : Nat} {W : World} {v : Value} (h1 : l'.map PV.plc = (stepAns K (l.map PV.plc)).1.2) (h : OwnsReg base W v (stepAns K (l.map PV.plc)).1.1 l') : IsReg W.heap.size W v (stepAns K (l.map PV.plc)).1.1 l' := by
  by_cases h0 : chkRg K (l.map PV.plc) = 0
  · obtain ⟨g1, g2, g3, _⟩ := rg_lens h0
    unfold stepAns at h1 h ⊢
    rw [if_pos h0] at h1 h ⊢
    have hm := plc_mods h1 (stepRes_mods _)
    have hln := congrArg List.length hm
    rw [List.length_map, List.length_map] at hln
    exact h.isReg g1 (by omega) (lens_mods hm g3)
  · unfold stepAns at h1 h ⊢
    rw [if_neg h0] at h1 h ⊢
    have hn : l' = [] := List.map_eq_nil_iff.1 h1
    subst hn
    exact h.isReg (by simp [emptyK]) (by simp) (fun x hx => by simp at hx)
theorem packAns_reg {K : Ker} {l l' : List PV} {base : Nat} {W : World} {v : Value} (h1 : l'.map PV.plc = (packAns K (l.map PV.plc)).1.2) (h : OwnsReg base W v (packAns K (l.map PV.plc)).1.1 l') : IsReg W.heap.size W v (packAns K (l.map PV.plc)).1.1 l' := by
  by_cases h0 : chkRg K (l.map PV.plc) = 0
  · obtain ⟨g1, g2, g3, _⟩ := rg_lens h0
    unfold packAns at h1 h ⊢
    rw [if_pos h0] at h1 h ⊢
    have hm := plc_mods h1 (pack_mods _ _)
    have hln := congrArg List.length hm
    rw [List.length_map, List.length_map] at hln
    exact h.isReg g1 (by omega) (lens_mods hm g3)
  · unfold packAns at h1 h ⊢
    rw [if_neg h0] at h1 h ⊢
    have hn : l' = [] := List.map_eq_nil_iff.1 h1
    subst hn
    exact h.isReg (by simp [emptyK]) (by simp) (fun x hx => by simp at hx)

theorem IsReg.shape0 {n : Nat} {W : World} {v : Value} {K : Ker} {l : List PV} (h : IsReg n W v K l) : ∃ q j a c, v = .agg #[.int .i64 K.major, .int .i64 K.minor, .slice q K.exps.length j, .slice a l.length c] := by
  obtain ⟨ve, vl, rfl, ⟨q, j, rfl, _, _⟩, ⟨⟨a, c, rfl, _, _⟩, _⟩⟩ := h
  exact ⟨q, j, a, c, rfl⟩
theorem zero_isReg (n : Nat) (W : World) : IsReg n W (.agg #[.int .i64 0, .int .i64 0, .slice none 0 0, .slice none 0 0]) emptyK [] :=
  ⟨_, _, rfl, ⟨none, 0, rfl, by simp [emptyK], .inl rfl⟩, ⟨none, 0, rfl, by simp, .inl rfl⟩, fun x hx => by simp at hx⟩

theorem row2_form {n : Nat} {W : World} {v : Value} {K : Ker} {l : List PV} {f0 f1 : Int} (h : IsReg n W v K l) (hf : l.map (·.first) = [f0, f1]) : ∃ ma mi q lk j b off c, v = .agg #[.int .i64 ma, .int .i64 mi, .slice q lk j, .slice (some ⟨b, off, none⟩) 2 c] ∧ b < n ∧ W.cell? ⟨b, off + 7, none⟩ = some (.int .i64 f0) ∧ W.cell? ⟨b, off + 15, none⟩ = some (.int .i64 f1) := by
  obtain ⟨ve, vl, rfl, ⟨q, j, rfl, _, _⟩, ⟨⟨a, c, rfl, _, hc⟩, _⟩⟩ := h
  match l, hf, hc with
  | [x, y], hf, hc =>
    simp at hf
    rcases hc with h | ⟨b, off, rfl, hb, hc⟩
    · cases h
    · have h0 := hc 0 x rfl 7 (by omega)
      have h1 := hc 1 y rfl 7 (by omega)
      refine ⟨_, _, _, _, _, b, off, c, rfl, hb, ?_, ?_⟩
      · rw [← hf.1]
        simpa [PV.cell] using h0
      · rw [← hf.2]
        have e : off + 1 * 8 + 7 = off + 15 := by omega
        rw [e] at h1
        simpa [PV.cell] using h1

set_option maxHeartbeats 4000000 in
theorem regIs_ok (K : Ker) (l l' : List PV) (v v' : Value) (w : World) (h1 : IsReg w.heap.size w v K l) (h2 : IsReg w.heap.size w v' K l') (he : l.map PV.plc = l'.map PV.plc) :
    Calls Tryz.prog 17 #[v, .int .i64 0, .int .i64 0, v'] w fun e w' => e = .returned (.bool true) ∧ Below w.heap.size w w' := by
  have HS : Hid (∀ W, Below w.heap.size w W → Calls Tryz.prog 21 #[v, v'] W fun e w'' => e = .returned (.bool true) ∧ Below W.heap.size W w'') := fun W hb => sameReg_yes K l l' v v' W ((h1.below hb).more hb.size) ((h2.below hb).more hb.size) he
  obtain ⟨q, j, a, c, rfl⟩ := h1.shape0
  obtain ⟨q', j', a', c', rfl⟩ := h2.shape0
  clear h1 h2 he
  generalize K.exps.length = lk at *
  generalize l.length = ll at *
  generalize l'.length = ll' at *
  have HB1 : Hid (Below w.heap.size w ((w.alloc (.cells #[.int .i64 K.major, .int .i64 K.minor, .slice q lk j, .slice a ll c] 27)).alloc (.cells #[.int .i64 K.major, .int .i64 K.minor, .slice q' lk j', .slice a' ll' c'] 27))) := ((Below.refl _ _).alloc (Nat.le_refl _) _).alloc (by simp) _
  go_enter Tryz.func17, Tryz.ntmps17
  go_wp2_with fail
  refine (HS.out _ HB1.out).mono ?_
  rintro e w2 ⟨rfl, b2⟩
  have HB2 : Hid (Below w.heap.size w w2) := HB1.out.trans (b2.mono HB1.out.size)
  clear b2 HB1 HS
  go_wp2
  go_ret
  exact ⟨rfl, HB2.out⟩

set_option maxHeartbeats 4000000 in
theorem regIs_err (K : Ker) (l' : List PV) (v v' : Value) (er : Int) (w : World) (her : er ≠ 0) (h1 : IsReg w.heap.size w v emptyK []) (h2 : IsReg w.heap.size w v' K l') :
    Calls Tryz.prog 17 #[v, .int .i64 er, .int .i64 er, v'] w fun e w' => e = .returned (.bool true) ∧ Below w.heap.size w w' := by
  have HS : Hid (∀ W, Below w.heap.size w W → Calls Tryz.prog 21 #[v, .agg #[.int .i64 0, .int .i64 0, .slice none 0 0, .slice none 0 0]] W fun e w'' => e = .returned (.bool true) ∧ Below W.heap.size W w'') := fun W hb => sameReg_yes emptyK [] [] v _ W ((h1.below hb).more hb.size) (zero_isReg _ _) rfl
  obtain ⟨q, j, a, c, rfl⟩ := h1.shape0
  obtain ⟨q', j', a', c', rfl⟩ := h2.shape0
  clear h1 h2
  generalize K.exps.length = lk at *
  generalize l'.length = ll' at *
  dsimp only [emptyK, List.length_nil] at HS ⊢
  have hne : (er != 0) = true := by simpa using her
  have hbeq : (er == er) = true := by simp
  have HB1 : Hid (Below w.heap.size w ((w.alloc (.cells #[.int .i64 0, .int .i64 0, .slice q 0 j, .slice a 0 c] 27)).alloc (.cells #[.int .i64 K.major, .int .i64 K.minor, .slice q' lk j', .slice a' ll' c'] 27))) := ((Below.refl _ _).alloc (Nat.le_refl _) _).alloc (by simp) _
  have HA1 : Hid (CellsAt ((w.alloc (.cells #[.int .i64 0, .int .i64 0, .slice q 0 j, .slice a 0 c] 27)).alloc (.cells #[.int .i64 K.major, .int .i64 K.minor, .slice q' lk j', .slice a' ll' c'] 27)) w.heap.size 27 #[.int .i64 0, .int .i64 0, .slice q 0 j, .slice a 0 c]) := (CellsAt.new _ _ _).kept (World.grownBy_alloc _ _ none) (by simp)
  have HC1 : Hid (CellsAt ((w.alloc (.cells #[.int .i64 0, .int .i64 0, .slice q 0 j, .slice a 0 c] 27)).alloc (.cells #[.int .i64 K.major, .int .i64 K.minor, .slice q' lk j', .slice a' ll' c'] 27)) (w.heap.size + 1) 27 #[.int .i64 K.major, .int .i64 K.minor, .slice q' lk j', .slice a' ll' c']) := by
    have := CellsAt.new (w.alloc (.cells #[.int .i64 0, .int .i64 0, .slice q 0 j, .slice a 0 c] 27)) 27 #[.int .i64 K.major, .int .i64 K.minor, .slice q' lk j', .slice a' ll' c']
    rw [World.size_alloc] at this
    exact this
  go_enter Tryz.func17, Tryz.ntmps17
  go_upto_region 2 with fail
  generalize ((w.alloc (.cells #[.int .i64 0, .int .i64 0, .slice q 0 j, .slice a 0 c] 27)).alloc (.cells #[.int .i64 K.major, .int .i64 K.minor, .slice q' lk j', .slice a' ll' c'] 27)) = w1 at *
  have z0 := CellsAt.cell HC1.out 0
  have z1 := CellsAt.cell HC1.out 1
  have z2 := CellsAt.cell HC1.out 2
  have z3 := CellsAt.cell HC1.out 3
  have f0 := CellsAt.frozen HC1.out 0
  have f1 := CellsAt.frozen HC1.out 1
  have f2 := CellsAt.frozen HC1.out 2
  have f3 := CellsAt.frozen HC1.out 3
  have zl := CellsAt.lt HC1.out
  simp at z0 z1 z2 z3
  have hG := sets4_grown w1 (w.heap.size + 1) (.int .i64 0) (.int .i64 0) (.slice none 0 0) (.slice none 0 0)
  have HB9 : Hid (Below w.heap.size w ((((w1.setCell ⟨w.heap.size + 1, 0, none⟩ (.int .i64 0)).setCell ⟨w.heap.size + 1, 1, none⟩ (.int .i64 0)).setCell ⟨w.heap.size + 1, 2, none⟩ (.slice none 0 0)).setCell ⟨w.heap.size + 1, 3, none⟩ (.slice none 0 0))) := HB1.out.grown hG HB1.out.size (fun q hq => by obtain rfl := Option.some.inj hq; omega)
  have HZ9 : Hid (CellsAt ((((w1.setCell ⟨w.heap.size + 1, 0, none⟩ (.int .i64 0)).setCell ⟨w.heap.size + 1, 1, none⟩ (.int .i64 0)).setCell ⟨w.heap.size + 1, 2, none⟩ (.slice none 0 0)).setCell ⟨w.heap.size + 1, 3, none⟩ (.slice none 0 0)) (w.heap.size + 1) 27 #[.int .i64 0, .int .i64 0, .slice none 0 0, .slice none 0 0]) := sets4 HC1.out _ _ _ _
  have HA9 : Hid (CellsAt ((((w1.setCell ⟨w.heap.size + 1, 0, none⟩ (.int .i64 0)).setCell ⟨w.heap.size + 1, 1, none⟩ (.int .i64 0)).setCell ⟨w.heap.size + 1, 2, none⟩ (.slice none 0 0)).setCell ⟨w.heap.size + 1, 3, none⟩ (.slice none 0 0)) w.heap.size 27 #[.int .i64 0, .int .i64 0, .slice q 0 j, .slice a 0 c]) := HA1.out.kept hG (by intro e; have := Option.some.inj e; omega)
  clear HB1 HC1 HA1 hG
  go_upto_region 3 with fail
  generalize ((((w1.setCell ⟨w.heap.size + 1, 0, none⟩ (.int .i64 0)).setCell ⟨w.heap.size + 1, 1, none⟩ (.int .i64 0)).setCell ⟨w.heap.size + 1, 2, none⟩ (.slice none 0 0)).setCell ⟨w.heap.size + 1, 3, none⟩ (.slice none 0 0)) = w4 at *
  clear z0 z1 z2 z3 f0 f1 f2 f3 zl
  have z0 := CellsAt.cell HZ9.out 0
  have z1 := CellsAt.cell HZ9.out 1
  have z2 := CellsAt.cell HZ9.out 2
  have z3 := CellsAt.cell HZ9.out 3
  have zl := CellsAt.lt HZ9.out
  have a0 := CellsAt.cell HA9.out 0
  have a1 := CellsAt.cell HA9.out 1
  have a2 := CellsAt.cell HA9.out 2
  have a3 := CellsAt.cell HA9.out 3
  have al := CellsAt.lt HA9.out
  simp at z0 z1 z2 z3 a0 a1 a2 a3
  go_wp2_with fail
  refine (HS.out _ HB9.out).mono ?_
  rintro e w5 ⟨rfl, b5⟩
  have HB5 : Hid (Below w.heap.size w w5) := HB9.out.trans (b5.mono HB9.out.size)
  clear b5 HB9 HS HZ9 HA9 z0 z1 z2 z3 zl a0 a1 a2 a3 al
  go_wp2
  go_ret
  exact ⟨rfl, HB5.out⟩

end Go.Proofs.YthmohjgdcjafkaeGreat

/- What must be in any case, of compact. -/
namespace Go.Proofs.YthmohjgdcjafkaeGreat
open Go.RowKit Go.PlainAid Go.Lib

set_option maxRecDepth 100000

theorem cpB_s1 : (stepRes pairL).1.map (·.first) = [0, 4] := by kernel_rfl
theorem cpB_s2 : (stepRes pairL).2 = true := by kernel_rfl
theorem cpB_p1 : (packFrom 0 pairL).map (·.first) = [0, 1] := by kernel_rfl
theorem cpB_p2 : offFrom 0 pairL = 2 := by kernel_rfl
theorem firsts_plc {l : List PV} {L : List Plc} {f : List Int} (h : l.map PV.plc = L) (hf : L.map (·.first) = f) : l.map (·.first) = f := by
  rw [← hf, ← h, List.map_map]
  rfl

set_option maxHeartbeats 8000000 in
theorem compactBegun_any (w : World) : Calls Tryz.prog 23 #[] w fun e w' => e = .returned (.bool true) ∧ Below w.heap.size w w' := by
  have HST : Hid (∀ l v W, l.map PV.plc = pairL → IsReg W.heap.size W v kernK l → Calls Tryz.prog 24 #[v] W fun e w' => (∃ ma mi q lk j b off c, e = .returned (.tuple #[.agg #[.int .i64 ma, .int .i64 mi, .slice q lk j, .slice (some ⟨b, off, none⟩) 2 c], .bool true, .int .i64 0]) ∧ b < w'.heap.size ∧ w'.cell? ⟨b, off + 7, none⟩ = some (.int .i64 0) ∧ w'.cell? ⟨b, off + 15, none⟩ = some (.int .i64 4)) ∧ Below W.heap.size W w') := fun l v W hl hR => by
    refine (compStep_any kernK l v W hR kern_fits (pair_fits hl)).mono ?_
    rintro e w' ⟨⟨v', l', rfl, hp, _, ho⟩, hb⟩
    have hi := stepAns_reg hp ho
    have ha : stepAns kernK (l.map PV.plc) = ((kernK, (stepRes pairL).1), (stepRes pairL).2, 0) := by
      unfold stepAns
      rw [hl, if_pos rgB_c]
    rw [ha] at hp hi ⊢
    obtain ⟨ma, mi, q, lk, j, b, off, c, rfl, h1, h2, h3⟩ := row2_form hi (firsts_plc hp cpB_s1)
    dsimp only
    rw [cpB_s2]
    exact ⟨⟨ma, mi, q, lk, j, b, off, c, rfl, h1, h2, h3⟩, hb⟩
  have HPK : Hid (∀ l v W, l.map PV.plc = pairL → IsReg W.heap.size W v kernK l → Calls Tryz.prog 22 #[v] W fun e w' => (∃ ma mi q lk j b off c, e = .returned (.tuple #[.agg #[.int .i64 ma, .int .i64 mi, .slice q lk j, .slice (some ⟨b, off, none⟩) 2 c], .int .i64 2, .int .i64 0]) ∧ b < w'.heap.size ∧ w'.cell? ⟨b, off + 7, none⟩ = some (.int .i64 0) ∧ w'.cell? ⟨b, off + 15, none⟩ = some (.int .i64 1)) ∧ Below W.heap.size W w') := fun l v W hl hR => by
    refine (compPack_any kernK l v W hR kern_fits (pair_fits hl)).mono ?_
    rintro e w' ⟨⟨v', l', rfl, hp, _, ho⟩, hb⟩
    have hi := packAns_reg hp ho
    have ha : packAns kernK (l.map PV.plc) = ((kernK, packFrom 0 pairL), offFrom 0 pairL, 0) := by
      unfold packAns
      rw [hl, if_pos rgB_c]
    rw [ha] at hp hi ⊢
    obtain ⟨ma, mi, q, lk, j, b, off, c, rfl, h1, h2, h3⟩ := row2_form hi (firsts_plc hp cpB_p1)
    dsimp only
    rw [cpB_p2]
    exact ⟨⟨ma, mi, q, lk, j, b, off, c, rfl, h1, h2, h3⟩, hb⟩
  go_enter Tryz.func23, Tryz.ntmps23
  go_wp2_with fail
  refine (reg_any _).mono ?_
  rintro e w1 ⟨v, l, rfl, hl, hR, B⟩
  have HB1 : Hid (Below w.heap.size w w1) := B
  clear B
  go_wp2_with fail
  refine (HST.out l v _ hl hR).mono ?_
  rintro e w2 ⟨⟨ma, mi, q, lk, j, b, off, c, rfl, hb, h7, h15⟩, b2⟩
  have HB2 : Hid (Below w.heap.size w w2) := HB1.out.trans (b2.mono HB1.out.size)
  clear b2 HB1 hl hR HST
  have HB3 : Hid (Below w.heap.size w (w2.alloc (.cells #[.int .i64 ma, .int .i64 mi, .slice q lk j, .slice (some ⟨b, off, none⟩) 2 c] 27))) := HB2.out.alloc HB2.out.size _
  have HC3 : Hid (CellsAt (w2.alloc (.cells #[.int .i64 ma, .int .i64 mi, .slice q lk j, .slice (some ⟨b, off, none⟩) 2 c] 27)) w2.heap.size 27 #[.int .i64 ma, .int .i64 mi, .slice q lk j, .slice (some ⟨b, off, none⟩) 2 c]) := CellsAt.new _ _ _
  have ba : Below w2.heap.size w2 (w2.alloc (.cells #[.int .i64 ma, .int .i64 mi, .slice q lk j, .slice (some ⟨b, off, none⟩) 2 c] 27)) := (Below.refl _ _).alloc (Nat.le_refl _) _
  have H7 : Hid ((w2.alloc (.cells #[.int .i64 ma, .int .i64 mi, .slice q lk j, .slice (some ⟨b, off, none⟩) 2 c] 27)).cell? ⟨b, off + 7, none⟩ = some (.int .i64 0)) := (ba.cell (p := ⟨b, off + 7, none⟩) hb).trans h7
  have H15 : Hid ((w2.alloc (.cells #[.int .i64 ma, .int .i64 mi, .slice q lk j, .slice (some ⟨b, off, none⟩) 2 c] 27)).cell? ⟨b, off + 15, none⟩ = some (.int .i64 4)) := (ba.cell (p := ⟨b, off + 15, none⟩) hb).trans h15
  have HBL : Hid (b < w2.heap.size) := hb
  clear hb h7 h15 ba HB2
  go_wp2_with fail
  refine (reg_any _).mono ?_
  have hsz : w2.heap.size < (w2.alloc (.cells #[.int .i64 ma, .int .i64 mi, .slice q lk j, .slice (some ⟨b, off, none⟩) 2 c] 27)).heap.size := HC3.out.lt
  generalize (w2.alloc (.cells #[.int .i64 ma, .int .i64 mi, .slice q lk j, .slice (some ⟨b, off, none⟩) 2 c] 27)) = w3 at *
  generalize w2.heap.size = g2 at *
  rintro e w4 ⟨v, l, rfl, hl, hR, b4⟩
  have hbl := HBL.out
  have HB4 : Hid (Below w.heap.size w w4) := HB3.out.trans (b4.mono HB3.out.size)
  have HC4 : Hid (CellsAt w4 g2 27 #[.int .i64 ma, .int .i64 mi, .slice q lk j, .slice (some ⟨b, off, none⟩) 2 c]) := HC3.out.below b4 HC3.out.lt
  have I7 : Hid (w4.cell? ⟨b, off + 7, none⟩ = some (.int .i64 0)) := (b4.cell (p := ⟨b, off + 7, none⟩) (show b < _ by omega)).trans H7.out
  have I15 : Hid (w4.cell? ⟨b, off + 15, none⟩ = some (.int .i64 4)) := (b4.cell (p := ⟨b, off + 15, none⟩) (show b < _ by omega)).trans H15.out
  clear b4 H7 H15 HC3 HB3 hsz
  go_wp2_with fail
  refine (HPK.out l v _ hl hR).mono ?_
  rintro e w5 ⟨⟨ma', mi', q', lk', j', b', off', c', rfl, hb', h7', h15'⟩, b5⟩
  have hl4 := HC4.out.lt
  have HB5 : Hid (Below w.heap.size w w5) := HB4.out.trans (b5.mono HB4.out.size)
  have HC5 : Hid (CellsAt w5 g2 27 #[.int .i64 ma, .int .i64 mi, .slice q lk j, .slice (some ⟨b, off, none⟩) 2 c]) := HC4.out.below b5 HC4.out.lt
  have J7 : Hid (w5.cell? ⟨b, off + 7, none⟩ = some (.int .i64 0)) := (b5.cell (p := ⟨b, off + 7, none⟩) (show b < _ by omega)).trans I7.out
  have J15 : Hid (w5.cell? ⟨b, off + 15, none⟩ = some (.int .i64 4)) := (b5.cell (p := ⟨b, off + 15, none⟩) (show b < _ by omega)).trans I15.out
  clear b5 I7 I15 HC4 HB4 hl hR HPK
  have hl5 := HC5.out.lt
  have HB6 : Hid (Below w.heap.size w (w5.alloc (.cells #[.int .i64 ma', .int .i64 mi', .slice q' lk' j', .slice (some ⟨b', off', none⟩) 2 c'] 27))) := HB5.out.alloc HB5.out.size _
  have HD6 : Hid (CellsAt (w5.alloc (.cells #[.int .i64 ma', .int .i64 mi', .slice q' lk' j', .slice (some ⟨b', off', none⟩) 2 c'] 27)) w5.heap.size 27 #[.int .i64 ma', .int .i64 mi', .slice q' lk' j', .slice (some ⟨b', off', none⟩) 2 c']) := CellsAt.new _ _ _
  have ba : Below w5.heap.size w5 (w5.alloc (.cells #[.int .i64 ma', .int .i64 mi', .slice q' lk' j', .slice (some ⟨b', off', none⟩) 2 c'] 27)) := (Below.refl _ _).alloc (Nat.le_refl _) _
  have HC6 : Hid (CellsAt (w5.alloc (.cells #[.int .i64 ma', .int .i64 mi', .slice q' lk' j', .slice (some ⟨b', off', none⟩) 2 c'] 27)) g2 27 #[.int .i64 ma, .int .i64 mi, .slice q lk j, .slice (some ⟨b, off, none⟩) 2 c]) := HC5.out.below ba HC5.out.lt
  have K7 := (ba.cell (p := ⟨b, off + 7, none⟩) (show b < _ by omega)).trans J7.out
  have K15 := (ba.cell (p := ⟨b, off + 15, none⟩) (show b < _ by omega)).trans J15.out
  have L15 := (ba.cell (p := ⟨b', off' + 15, none⟩) hb').trans h15'
  clear hb' h7' h15' J7 J15 HC5 HB5 ba hl4 hl5 hbl HBL
  go_upto_region 3 with fail
  generalize (w5.alloc (.cells #[.int .i64 ma', .int .i64 mi', .slice q' lk' j', .slice (some ⟨b', off', none⟩) 2 c'] 27)) = w6 at *
  generalize w5.heap.size = g5 at *
  have c1 := CellsAt.cell HC6.out 3
  have cl := CellsAt.lt HC6.out
  have d1 := CellsAt.cell HD6.out 3
  have dl := CellsAt.lt HD6.out
  simp at c1 d1
  go_wp2
  go_ret
  exact ⟨rfl, HB6.out⟩

end Go.Proofs.YthmohjgdcjafkaeGreat

/- What is packed stays right, and packing it again changes nothing: as data. -/
namespace Go.Proofs.YthmohjgdcjafkaeGreat
open Go.RowKit Go.PlainAid Go.Lib

theorem pack_pack : ∀ (L : List Plc) (e : Int), packFrom e (packFrom e L) = packFrom e L
  | [], _ => rfl
  | p :: r, e => by
    show (⟨p.mod, e⟩ : Plc) :: packFrom (e + szM p.mod) (packFrom (e + szM p.mod) r) = ⟨p.mod, e⟩ :: packFrom (e + szM p.mod) r
    rw [pack_pack r]
theorem off_pack : ∀ (L : List Plc) (e : Int), offFrom e (packFrom e L) = 0
  | [], _ => rfl
  | p :: r, e => by
    show (if e = e then 0 else 1) + offFrom (e + szM p.mod) (packFrom (e + szM p.mod) r) = 0
    rw [if_pos rfl, off_pack r]
theorem step_pack (L : List Plc) : stepRes (packFrom 0 L) = (packFrom 0 L, false) := by
  unfold stepRes
  cases hs : stepFrom 0 (packFrom 0 L) with
  | none => rfl
  | some L' =>
    have := (step_some hs).2.1
    rw [off_pack] at this
    omega
theorem chk_pack {K : Ker} : ∀ (n : Nat) (L : List Plc), offFrom 0 L = n → chkRg K L = 0 → chkRg K (packFrom 0 L) = 0 := by
  intro n
  induction n with
  | zero =>
    intro L hn h
    cases hs : stepFrom 0 L with
    | none => rw [(step_none hs).1]; exact h
    | some L' =>
      have := (step_some hs).2.1
      omega
  | succ n ih =>
    intro L hn h
    cases hs : stepFrom 0 L with
    | none => rw [(step_none hs).1]; exact h
    | some L' =>
      obtain ⟨n1, n2, _⟩ := step_some hs
      rw [← n1]
      exact ih L' (by omega) (step_right h hs)

end Go.Proofs.YthmohjgdcjafkaeGreat
