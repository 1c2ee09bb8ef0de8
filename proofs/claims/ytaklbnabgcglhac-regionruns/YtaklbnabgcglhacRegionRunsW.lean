/- The walk of the law RegionRuns: it returns true. -/
import Derived.Test.YtaklbnabgcglhacRegB
import Derived.Test.YtaklbnabgcglhacLessA
namespace Go.Proofs.Ytaklbnabgcglhac.regionRuns
open Go.RowKit Go.PlainAid

set_option maxRecDepth 100000

theorem rises_at : ∀ {l : List (Int × Int)} {e : Int}, 0 ≤ e → rises e l → ∀ (k : Nat) (x : Int × Int), l[k]? = some x → 1 ≤ x.2 ∧ 0 ≤ x.1 ∧ x.1 + x.2 ≤ 16 ∧ ∀ y : Int × Int, l[k + 1]? = some y → x.1 + x.2 < y.1
  | [], _, _, _, k, x, h => by simp at h
  | r :: l, e, he, hr, 0, x, h => by
    obtain ⟨h1, h2, h3, h4⟩ := hr
    simp at h
    subst h
    refine ⟨h2, by omega, h3, fun y hy => ?_⟩
    cases l with
    | nil => simp at hy
    | cons z l =>
      simp at hy
      subst hy
      have := h4.1
      omega
  | r :: l, e, he, hr, k + 1, x, h => by
    obtain ⟨h1, h2, h3, h4⟩ := hr
    simp at h
    obtain ⟨g1, g2, g3, g4⟩ := rises_at (e := r.1 + r.2 + 1) (by omega) h4 k x h
    exact ⟨g1, g2, g3, fun y hy => g4 y (by simpa using hy)⟩
theorem sums (L : List Plc) : sumRuns (runsFrom 0 L) = 16 - sumSz L := by
  have := sum_runs L 0
  omega

set_option maxHeartbeats 8000000 in
theorem walk (l : List PV) (v : Value) (W : World) (hP : IsPlcs W.heap.size W v l) (hfit : ∀ x ∈ l, x.mod.fits) (hcap : ∀ a n c, v = .slice a n c → n ≤ c ∧ c ≤ 9223372036854775807) :
    Calls Try.prog 8 #[v] W fun e W' => e = .returned (.bool true) ∧ Below W.heap.size W W' := by
  have HF2 : Hid (∀ W', Below W.heap.size W W' → Calls Try.prog 16 #[v] W' fun e w' => (∃ r, e = .returned (.tuple #[r, .int .i64 (chkReg (l.map PV.plc))]) ∧ RowOf 2 runCell w'.heap.size w' r (freeRes (l.map PV.plc))) ∧ Below W'.heap.size W' w') := fun W' hb => free_any l v W' ((hP.below hb).more hb.size) hfit
  have HS : Hid (∀ x ∈ l, ∀ W', Below W.heap.size W W' → Calls Try.prog 15 #[x.modV] W' fun e w' => e = .returned (.tuple #[.int .i64 (if chkMod x.mod = 0 then (szM x.mod : Int) else 0), .int .i64 (chkMod x.mod)]) ∧ Below W'.heap.size W' w') := fun x hx W' hb => size_any x.mod x.modV W' (((hP.2 x hx).below hb).more hb.size |>.isMod) (hfit x hx)
  have HL : Hid (chkReg (l.map PV.plc) = 0 → ∀ (k : Nat) (x : PV), l[k]? = some x → ∀ v' W', Below W.heap.size W W' → RowOf 8 PV.cell W'.heap.size W' v' (l.take k ++ l.drop (k + 1)) → Calls Try.prog 16 #[v'] W' fun e w' => (∃ r FR, e = .returned (.tuple #[r, .int .i64 0]) ∧ RowOf 2 runCell w'.heap.size w' r FR ∧ FR.length ≤ 9 ∧ (∀ r ∈ FR, 0 ≤ r.2 ∧ r.2 ≤ 16) ∧ sumRuns FR = sumRuns (runsFrom 0 (l.map PV.plc)) + szM x.mod) ∧ Below W'.heap.size W' w') := by
    intro h0 k x hx v' W' hb hr
    have hsub : ∀ y ∈ l.take k ++ l.drop (k + 1), y ∈ l := by
      intro y hy
      rcases List.mem_append.1 hy with hy | hy
      · exact List.mem_of_mem_take hy
      · exact List.mem_of_mem_drop hy
    have he : (l.take k ++ l.drop (k + 1)).map PV.plc = (l.map PV.plc).eraseIdx k := by
      rw [List.eraseIdx_eq_take_drop_succ, List.map_append, List.map_take, List.map_drop]
    have := free_any (l.take k ++ l.drop (k + 1)) v' W' ⟨hr, fun y hy => ((hP.2 y (hsub y hy)).below hb).more hb.size⟩ (fun y hy => hfit y (hsub y hy))
    rw [he, chkReg_less k h0] at this
    refine this.mono ?_
    rintro e w' ⟨⟨r, rfl, hR⟩, b⟩
    have h0' := chkReg_less k h0
    have hfr : freeRes ((l.map PV.plc).eraseIdx k) = runsFrom 0 ((l.map PV.plc).eraseIdx k) := by unfold freeRes; rw [if_pos h0']
    rw [hfr] at hR
    refine ⟨⟨r, _, rfl, hR, ?_, ?_, ?_⟩, b⟩
    · have h1 := runs_len ((l.map PV.plc).eraseIdx k) 0
      have h2 := (chkReg_zero.1 h0').1
      omega
    · intro r hr
      obtain ⟨j, hj⟩ := List.getElem?_of_mem hr
      have := rises_at (by omega) (runs_rise (chkReg_zero.1 h0').2.2) j r hj
      omega
    · rw [sums, sums]
      have h1 : (l.map PV.plc)[k]? = some x.plc := by rw [List.getElem?_map, hx]; rfl
      have := sum_less h1
      have h2 : szM x.plc.mod = szM x.mod := rfl
      omega
  have hat := hP.2
  obtain ⟨⟨a, cap, rfl, hmax, hrow⟩, _⟩ := hP
  obtain ⟨hc1, hc2⟩ := hcap _ _ _ rfl
  clear hcap
  have key : (chkReg (l.map PV.plc) ≠ 0 ∧ freeRes (l.map PV.plc) = []) ∨ (chkReg (l.map PV.plc) = 0 ∧ freeRes (l.map PV.plc) = runsFrom 0 (l.map PV.plc)) := by
    unfold freeRes
    by_cases h : chkReg (l.map PV.plc) = 0
    · exact .inr ⟨h, if_pos h⟩
    · exact .inl ⟨h, if_neg h⟩
  have HZ : Hid (chkReg (l.map PV.plc) = 0 → (∀ x ∈ l, chkMod x.mod = 0 ∧ szM x.mod ≤ 4) ∧ l.length ≤ 8 ∧ (runsFrom 0 (l.map PV.plc)).length ≤ 9 ∧ ∀ (k : Nat) (x : Int × Int), (runsFrom 0 (l.map PV.plc))[k]? = some x → 1 ≤ x.2 ∧ 0 ≤ x.1 ∧ x.1 + x.2 ≤ 16 ∧ ∀ y : Int × Int, (runsFrom 0 (l.map PV.plc))[k + 1]? = some y → x.1 + x.2 < y.1) := by
    intro h
    obtain ⟨h1, h2, h3⟩ := chkReg_zero.1 h
    refine ⟨fun x hx => ?_, by simpa using h1, Nat.le_trans (runs_len _ _) (by omega), rises_at (by omega) (runs_rise h3)⟩
    exact ⟨h2 _ (List.mem_map_of_mem hx), (szM_bd (h2 _ (List.mem_map_of_mem hx))).2.1⟩
  generalize runsFrom 0 (l.map PV.plc) = RF at *
  generalize freeRes (l.map PV.plc) = FR at *
  generalize chkReg (l.map PV.plc) = cr at *
  go_enter Try.func8, Try.ntmps8
  go_wp2_with fail
  refine (HF2.out W (Below.refl _ _)).mono ?_
  rintro e w1 ⟨⟨r, rfl, hR⟩, B1⟩
  clear HF2
  obtain ⟨ar, kr, rfl, _, hR1⟩ := id hR
  go_wp2_with fail
  refine (regionBegun_any _).mono ?_
  rintro e w2 ⟨rfl, b2⟩
  have B2 := B1.trans (b2.mono B1.size)
  have hR2 := (hR.below b2).more b2.size
  clear b2 B1 hR hR1
  obtain ⟨ar', kr', he2, _, hR⟩ := hR2
  obtain ⟨rfl, rfl⟩ : ar = ar' ∧ kr = kr' := by
    injection he2 with q1 q2 q3
    exact ⟨q1, q3⟩
  clear he2
  rcases key with ⟨h0, rfl⟩ | ⟨rfl, rfl⟩
  · have h0' : (cr != 0) = true := by simpa using h0
    clear HZ HS HL hrow hat hR
    go_wp2
    go_ret
    exact ⟨rfl, B2⟩
  · obtain ⟨hz, h8, r9, ra⟩ := HZ.out (by first | rfl | trivial)
    have HL' : Hid (∀ (k : Nat) (x : PV), l[k]? = some x → ∀ v' W', Below W.heap.size W W' → RowOf 8 PV.cell W'.heap.size W' v' (l.take k ++ l.drop (k + 1)) → Calls Try.prog 16 #[v'] W' fun e w' => (∃ r FR', e = .returned (.tuple #[r, .int .i64 0]) ∧ RowOf 2 runCell w'.heap.size w' r FR' ∧ FR'.length ≤ 9 ∧ (∀ r ∈ FR', 0 ≤ r.2 ∧ r.2 ≤ 16) ∧ sumRuns FR' = sumRuns FR + szM x.mod) ∧ Below W'.heap.size W' w') := HL.out (by first | rfl | trivial)
    clear HZ HL
    go_wp2_with fail
    go_loopw [5, 6] (fun s i wr => ∃ (k : Nat) (A : Int), k ≤ FR.length ∧ i = .int .i64 k ∧ s = .int .i64 A ∧ 0 ≤ A ∧ A ≤ 16 * k ∧ Hid (sumRuns FR = A + sumRuns (FR.drop k)) ∧ Hid (∃ q, wr = w2.drewN q)) (fun _ i _ => FR.length - (intOf i).toNat)
    case atStart => exact ⟨0, 0, Nat.zero_le _, rfl, rfl, by omega, by omega, by show sumRuns FR = 0 + sumRuns (FR.drop 0); simp, (⟨0, rfl⟩ : ∃ q, w2 = w2.drewN q)⟩
    case round =>
      obtain ⟨k, A, hk, rfl, rfl, hA0, hA1, HC, HQ⟩ := hrel
      by_cases hlt : k < FR.length
      · obtain ⟨x, hx⟩ : ∃ x, FR[k]? = some x := ⟨_, List.getElem?_eq_getElem hlt⟩
        have hxr := ra k x hx
        rcases hR with h | ⟨b, off, rfl, hbn, hcells⟩
        · subst h; simp at hlt
        have hcl : ∀ p, wr.cell? p = w2.cell? p := fun p => by obtain ⟨q, hq⟩ := HQ.out; rw [hq]; simp
        have c0 := (hcl _).trans (hcells k _ hx 0 (by omega))
        have c1 := (hcl _).trans (hcells k _ hx 1 (by omega))
        have HR : Hid (sumRuns FR = (A + x.2) + sumRuns (FR.drop (k + 1))) := by
          show sumRuns FR = _
          rw [HC.out, drop_at hx]
          simp [sumRuns]; omega
        obtain ⟨x1, x2⟩ := x
        dsimp only [runCell] at c0 c1 HR hxr
        rw [Nat.add_zero] at c0
        obtain ⟨g1, g2, g3, _⟩ := hxr
        have i1 : IntKind.i64.wrap (x1 + x2) = x1 + x2 := by rw [i64_is]; unfold wrap64; omega
        have d1 : decide (x2 < 1) = false := decide_eq_false (by omega)
        have d2 : decide (x1 < 0) = false := decide_eq_false (by omega)
        have d3 : decide (16 < x1 + x2) = false := decide_eq_false (by omega)
        rcases Nat.eq_zero_or_pos k with hk0 | hkp
        · have d5 : decide ((0 : Int) < (k : Int)) = false := decide_eq_false (by omega)
          have d6 : decide (0 < k) = false := decide_eq_false (by omega)
          clear HC hcells ra hcl hk0
          go_wp2
          go_quiet (fail)
          go_wp2
          obtain ⟨q, hq⟩ := HQ.out
          exact ⟨⟨k + 1, A + x2, by omega, by go_num, by go_num, by omega, by omega, HR.out, (⟨q + _, by rw [hq, World.drewN_drewN]⟩ : ∃ q, _ = w2.drewN q)⟩, by simp [intOf]; omega⟩
        · obtain ⟨m, hkm⟩ : ∃ m, k = m + 1 := ⟨k - 1, by omega⟩
          obtain ⟨y, hy⟩ : ∃ y, FR[m]? = some y := ⟨_, List.getElem?_eq_getElem (by omega)⟩
          have hyr := ra m y hy
          have hgap := hyr.2.2.2 _ (by rw [← hkm]; exact hx)
          have e0 := (hcl _).trans (hcells m _ hy 0 (by omega))
          have e1 := (hcl _).trans (hcells m _ hy 1 (by omega))
          obtain ⟨y1, y2⟩ := y
          dsimp only [runCell] at e0 e1 hyr hgap
          rw [Nat.add_zero] at e0
          obtain ⟨f1, f2, f3, _⟩ := hyr
          have i2 : IntKind.i64.wrap (y1 + y2) = y1 + y2 := by rw [i64_is]; unfold wrap64; omega
          have i0 : IntKind.i64.wrap ((k : Int) - 1) = (m : Int) := by rw [i64_is]; unfold wrap64; omega
          have d4 : decide (x1 ≤ y1 + y2) = false := decide_eq_false (by omega)
          have d5 : decide ((0 : Int) < (k : Int)) = true := decide_eq_true (by omega)
          have hml : m < FR.length := by omega
          have HKM : Hid (k = m + 1) := hkm
          clear HC hcells ra hcl hkm
          go_wp2
          go_quiet (fail)
          go_wp2
          obtain ⟨q, hq⟩ := HQ.out
          exact ⟨⟨k + 1, A + x2, by omega, by go_num, by go_num, by omega, by omega, HR.out, (⟨q + _, by rw [hq, World.drewN_drewN]⟩ : ∃ q, _ = w2.drewN q)⟩, by simp [intOf]; omega⟩
      · obtain rfl : k = FR.length := by omega
        have HS1 : Hid (sumRuns FR = A) := by
          have h1 := HC.out
          rw [List.drop_length] at h1
          have h2 : sumRuns [] = 0 := rfl
          show sumRuns FR = A
          omega
        have hA2 : A ≤ 144 := by omega
        have BQ0 : Below W.heap.size W wr := by obtain ⟨q, hq⟩ := HQ.out; rw [hq]; exact below_drewN B2 q
        clear HC ra HQ hR
        go_wp2_with fail
        go_loopw [7] (fun i wr => ∃ (k : Nat), k ≤ l.length ∧ i = .int .i64 k ∧ Below W.heap.size W wr) (fun i _ => l.length - (intOf i).toNat)
        case atStart => exact ⟨0, Nat.zero_le _, rfl, BQ0⟩
        case round =>
          clear BQ0
          obtain ⟨k, hk, rfl, BQ⟩ := hrel
          by_cases hlt : k < l.length
          · obtain ⟨x, hx⟩ : ∃ x, l[k]? = some x := ⟨_, List.getElem?_eq_getElem hlt⟩
            have hxr := hz x (List.mem_of_getElem? hx)
            rcases hrow with h | ⟨b, off, rfl, hbn, hcells⟩
            · subst h; simp at hlt
            obtain ⟨ii, hii, hz0, hz1, hz2⟩ := infoPlc_parts
            go_wp2_with fail
            obtain ⟨k1, hk1⟩ : ∃ k1, k1 = k + 1 := ⟨_, rfl⟩
            obtain ⟨o2, ho2, ho3⟩ : ∃ o2, (if cap = k1 then some (⟨b, off, none⟩ : Addr) else some ⟨b, off + k1 * 8, none⟩) = some ⟨b, o2, none⟩ ∧ (k1 < l.length → o2 = off + k1 * 8) := by
              by_cases h : cap = k1
              · exact ⟨off, by rw [if_pos h], fun h' => by omega⟩
              · exact ⟨off + k1 * 8, by rw [if_neg h], fun _ => rfl⟩
            have HK1 : Hid (k1 = k + 1) := hk1
            have HO3 : Hid (k1 < l.length → o2 = off + k1 * 8) := ho3
            have q0 : IntKind.i64.wrap ((k : Int) + 1) = (k1 : Int) := by rw [i64_is]; unfold wrap64; omega
            have q1 : k ≤ cap := by omega
            have q2 : k1 ≤ cap := by omega
            have q3 : l.length ≤ cap := hc1
            have q4 : k1 ≤ l.length := by omega
            clear hk1 ho3
            refine wp_region_noPanic ?_
            refine wp_region_L (S := fun _ => True) (x := 10) (by kernel_rfl) ?_
            have Bw5 : Below W.heap.size W wr.drew := BQ.drew
            generalize wr.drew = w5 at Bw5 ⊢
            have Ew5 : Below w5.heap.size w5 w5 := Below.refl _ _
            refine wpL_take 1 100 (.slice (some ⟨b, off, none⟩) l.length cap) rfl (by kernel_rfl) (fun _ _ _ h => h) trivial rfl rfl (fun w' hSw => by clear hSw; go_simp) ?_
            simp only [List.setIfInBounds_toArray, List.set_cons_zero, List.set_cons_succ]
            refine wpL_take 2 101 (.int .i64 k) rfl (by kernel_rfl) (fun _ _ _ h => h) trivial rfl rfl (fun w' hSw => by clear hSw; go_simp) ?_
            simp only [List.setIfInBounds_toArray, List.set_cons_zero, List.set_cons_succ]
            refine wpL_take 3 102 (.slice (some ⟨b, off, none⟩) k cap) rfl (by kernel_rfl) (fun _ _ _ h => h) trivial rfl rfl (fun w' hSw => by clear hSw; go_simp) ?_
            simp only [List.setIfInBounds_toArray, List.set_cons_zero, List.set_cons_succ]
            refine wpL_take 5 104 (.slice (some ⟨b, off, none⟩) l.length cap) rfl (by kernel_rfl) (fun _ _ _ h => h) trivial rfl rfl (fun w' hSw => by clear hSw; go_simp) ?_
            simp only [List.setIfInBounds_toArray, List.set_cons_zero, List.set_cons_succ]
            refine wpL_take 6 105 (.int .i64 k) rfl (by kernel_rfl) (fun _ _ _ h => h) trivial rfl rfl (fun w' hSw => by clear hSw; go_simp) ?_
            simp only [List.setIfInBounds_toArray, List.set_cons_zero, List.set_cons_succ]
            refine wpL_take 7 106 (.int .i64 k1) rfl (by kernel_rfl) (fun _ _ _ h => h) trivial rfl rfl (fun w' hSw => by clear hSw; go_simp) ?_
            simp only [List.setIfInBounds_toArray, List.set_cons_zero, List.set_cons_succ]
            refine wpL_take 8 107 (.slice (some ⟨b, o2, none⟩) (l.length - k1) (cap - k1)) rfl (by kernel_rfl) (fun _ _ _ h => h) trivial rfl rfl (fun w' hSw => by clear hSw; go_simp) ?_
            simp only [List.setIfInBounds_toArray, List.set_cons_zero, List.set_cons_succ]
            refine wpL_step (i := 0) rfl (by kernel_rfl) (fun K hK => ?_)
            go_simp
            have Bu6 : Below W.heap.size W (w5.alloc (.cells #[] 38)) := Bw5.alloc Bw5.size _
            have Eu6 : Below w5.heap.size w5 (w5.alloc (.cells #[] 38)) := Ew5.alloc Ew5.size _
            have O6 : (w5.alloc (.cells #[] 38)).ownsRow w5.heap.size 38 8 (.slice (some ⟨w5.heap.size, 0, none⟩) 0 0) 0 [] := own_empty Ew5.size
            refine hK.out _ _ trivial (fun _ => ?_)
            clear hK K
            generalize w5.alloc (.cells #[] 38) = u6 at Bu6 Eu6 O6 ⊢
            refine wpL_step (i := 4) rfl (by kernel_rfl) (fun K hK => ?_)
            have hlk : (l.take k).length = k := by rw [List.length_take]; omega
            have hcl : ∀ (j : Nat) (y : PV), (l.take k)[j]? = some y → ∀ i, i < 8 → u6.cell? ⟨b, off + j * 8 + i, none⟩ = some (PV.cell y i) := by
              intro j y hj i hi
              have hj' : l[j]? = some y := by
                rw [List.getElem?_take] at hj
                split at hj
                · exact hj
                · cases hj
              exact (Bu6.cell (p := ⟨b, off + j * 8 + i, none⟩) hbn).trans (hcells j y hj' i hi)
            refine step_append_may _ (by rfl) _ _ _ (by rfl) w5.heap.size 38 ii _ 8 128 Try.underlying22 hii hz0 hz1 hz2 rfl (by omega) (.slice (some ⟨w5.heap.size, 0, none⟩) 0 0) 0 [] (by rfl) O6 ⟨b, off, none⟩ k cap ((l.take k).flatMap pvC) (by rfl) (by rw [flat_len (C := pvC) (sz := 8) (fun _ => rfl), hlk]) (news_row (C := pvC) (cells := PV.cell) (sz := 8) (by decide) (fun _ => rfl) pvC_at hcl) (pvs_one (fun x hx => hat x (List.mem_of_mem_take hx))) (by unfold maxLen; omega) (by omega) Eu6.size ?_
            intro v7 u7 own7 grow7
            rw [Nat.zero_add, List.nil_append] at own7
            have Bu7 : Below W.heap.size W u7 := Bu6.grown grow7 Bu6.size (fun k hk => Nat.le_trans Bw5.size (own_block O6 k hk))
            have Eu7 : Below w5.heap.size w5 u7 := Eu6.grown grow7 Eu6.size (fun k hk => own_block O6 k hk)
            refine hK.out _ _ trivial (fun _ => ?_)
            clear hK K O6 grow7 hcl
            simp only [Act.put]
            try simp only [List.setIfInBounds_toArray]
            refine wpL_step (i := 9) rfl (by kernel_rfl) (fun K hK => ?_)
            have hlk2 : (l.drop k1).length = l.length - k1 := by rw [List.length_drop]
            have hcl : ∀ (j : Nat) (y : PV), (l.drop k1)[j]? = some y → ∀ i, i < 8 → u7.cell? ⟨b, o2 + j * 8 + i, none⟩ = some (PV.cell y i) := by
              intro j y hj i hi
              have hj' : l[k1 + j]? = some y := by rw [List.getElem?_drop] at hj; exact hj
              have hk1l : k1 < l.length := by have := (List.getElem?_eq_some_iff.1 hj').1; omega
              have := (Bu7.cell (p := ⟨b, off + (k1 + j) * 8 + i, none⟩) hbn).trans (hcells (k1 + j) y hj' i hi)
              rw [HO3.out hk1l, show off + k1 * 8 + j * 8 + i = off + (k1 + j) * 8 + i by omega]
              exact this
            refine step_append_may _ (by rfl) _ _ _ (by rfl) w5.heap.size 38 ii _ 8 128 Try.underlying22 hii hz0 hz1 hz2 rfl (by omega) v7 k ((l.take k).flatMap pvC) (by rfl) own7 ⟨b, o2, none⟩ (l.length - k1) (cap - k1) ((l.drop k1).flatMap pvC) (by rfl) (by rw [flat_len (C := pvC) (sz := 8) (fun _ => rfl), hlk2]) (news_row (C := pvC) (cells := PV.cell) (sz := 8) (by decide) (fun _ => rfl) pvC_at hcl) (pvs_one (fun x hx => hat x (List.mem_of_mem_drop hx))) (by unfold maxLen; omega) (by omega) Eu7.size ?_
            intro v9 u9 own9 grow9
            have B9 : Below W.heap.size W u9 := Bu7.grown grow9 Bu7.size (fun k hk => Nat.le_trans Bw5.size (own_block own7 k hk))
            have E9 : Below w5.heap.size w5 u9 := Eu7.grown grow9 Eu7.size (fun k hk => own_block own7 k hk)
            have HROW : Hid (RowOf 8 PV.cell u9.heap.size u9 v9 (l.take k ++ l.drop (k + 1))) := by
              have hn : k + (l.length - k1) = (l.take k ++ l.drop (k + 1)).length := by have := HK1.out; rw [List.length_append, hlk, List.length_drop]; omega
              have hx : (l.take k).flatMap pvC ++ (l.drop k1).flatMap pvC = (l.take k ++ l.drop (k + 1)).flatMap pvC := by rw [HK1.out, List.flatMap_append]
              rw [hn, hx] at own9
              exact own_rows (C := pvC) (cells := PV.cell) (sz := 8) (fun _ => rfl) pvC_at own9 (by rw [← hn]; omega)
            obtain ⟨av9, kv9, rfl⟩ := own_form own9
            refine hK.out _ _ trivial (fun _ => ?_)
            clear hK K own7 own9 grow9 hcl Bu6 Eu6 Bu7 Eu7 hlk hlk2 q0 q1 q2 q3 ho2
            simp only [Act.put]
            try simp only [List.setIfInBounds_toArray, List.set_cons_zero, List.set_cons_succ]
            refine wpL_last rfl (by kernel_rfl) (by kernel_rfl) (fun K hK => ?_)
            go_simp
            refine hK.out _ _ ?_
            refine NoPanic.normal ?_
            clear hK K
            obtain ⟨⟨pe, ke, e4, _⟩, ⟨pi, ki, e5, _⟩, ⟨pp, kp, e6, _⟩⟩ := hat x (List.mem_of_getElem? hx)
            have HSx : Hid (∀ W', Below W.heap.size W W' → Calls Try.prog 15 #[x.modV] W' fun e w' => e = .returned (.tuple #[.int .i64 (szM x.mod : Int), .int .i64 0]) ∧ Below W'.heap.size W' w') := by
              intro W' hb
              have := HS.out x (List.mem_of_getElem? hx) W' hb
              rw [hxr.1, if_pos rfl] at this
              exact this
            have HLx := HL'.out k x hx
            have q0' := hcells k _ hx 0 (by omega)
            have q1' := hcells k _ hx 1 (by omega)
            have q2' := hcells k _ hx 2 (by omega)
            have q3' := hcells k _ hx 3 (by omega)
            have q4' := hcells k _ hx 4 (by omega)
            have q5' := hcells k _ hx 5 (by omega)
            have q6' := hcells k _ hx 6 (by omega)
            obtain ⟨_, hx4⟩ := hxr
            generalize hsz : szM x.mod = sz at *
            obtain ⟨⟨N, ma, mi, T, es, is, ps⟩, ve, vi, vp, fi⟩ := x
            dsimp only at e4 e5 e6
            subst e4 e5 e6
            dsimp only [PV.cell] at q0' q1' q2' q3' q4' q5' q6'
            dsimp only [PV.modV] at HSx
            rw [Nat.add_zero] at q0'
            have HLX : Hid (Calls Try.prog 16 #[.slice av9 (k + (l.length - k1)) kv9] u9 fun e w' => _) := HLx _ u9 B9 HROW.out
            clear HLx HROW hcells hx hat hsz hz HS HL' E9 Ew5 Bw5
            generalize es.length = le at *
            generalize is.length = li at *
            generalize ps.length = lp at *
            go_wp2_with fail
            refine (HLX.out).mono ?_
            rintro e w10 ⟨⟨r, FR', rfl, hR', hl9, hb9, hs9⟩, b10⟩
            have B10 := B9.trans (b10.mono B9.size)
            have HSM : Hid (sumRuns FR' = A + sz) := by
              show sumRuns FR' = A + sz
              rw [hs9, HS1.out]
            clear HLX b10 B9 hs9
            obtain ⟨ar2, kr2, rfl, _, hR2⟩ := id hR'
            clear hR2
            have c0 := (B10.cell (p := ⟨b, off + k * 8, none⟩) hbn).trans q0'
            have c1 := (B10.cell (p := ⟨b, off + k * 8 + 1, none⟩) hbn).trans q1'
            have c2 := (B10.cell (p := ⟨b, off + k * 8 + 2, none⟩) hbn).trans q2'
            have c3 := (B10.cell (p := ⟨b, off + k * 8 + 3, none⟩) hbn).trans q3'
            have c4 := (B10.cell (p := ⟨b, off + k * 8 + 4, none⟩) hbn).trans q4'
            have c5 := (B10.cell (p := ⟨b, off + k * 8 + 5, none⟩) hbn).trans q5'
            have c6 := (B10.cell (p := ⟨b, off + k * 8 + 6, none⟩) hbn).trans q6'
            go_wp2_with fail
            refine (HSx.out _ B10).mono ?_
            rintro e w11 ⟨rfl, b11⟩
            have B11 := B10.trans (b11.mono B10.size)
            have hR3 := (hR'.below b11).more b11.size
            obtain ⟨ar3, kr3, he3, _, hR3⟩ := hR3
            injection he3 with j1 j2 j3
            subst j1 j3
            clear HSx b11 B10 hR' c0 c1 c2 c3 c4 c5 c6 q0' q1' q2' q3' q4' q5' q6' j2
            go_wp2_with fail
            go_loopw [13, 14] (fun s i wr => ∃ (j : Nat) (M : Int), j ≤ FR'.length ∧ i = .int .i64 j ∧ s = .int .i64 M ∧ 0 ≤ M ∧ M ≤ 16 * j ∧ Hid (sumRuns FR' = M + sumRuns (FR'.drop j)) ∧ wr = w11) (fun _ i _ => FR'.length - (intOf i).toNat)
            case atStart => exact ⟨0, 0, Nat.zero_le _, rfl, rfl, by omega, by omega, by show sumRuns FR' = 0 + sumRuns (FR'.drop 0); simp, rfl⟩
            case round =>
              obtain ⟨j, M, hj, rfl, rfl, hM0, hM1, HC, rfl⟩ := hrel
              by_cases hlt2 : j < FR'.length
              · obtain ⟨y, hy⟩ : ∃ y, FR'[j]? = some y := ⟨_, List.getElem?_eq_getElem hlt2⟩
                have hyr := hb9 y (List.mem_of_getElem? hy)
                rcases hR3 with h | ⟨b2, off2, rfl, hbn2, hcells2⟩
                · subst h; simp at hlt2
                have c1 := hcells2 j _ hy 1 (by omega)
                have HR : Hid (sumRuns FR' = (M + y.2) + sumRuns (FR'.drop (j + 1))) := by
                  show sumRuns FR' = _
                  rw [HC.out, drop_at hy]
                  simp [sumRuns]; omega
                obtain ⟨y1, y2⟩ := y
                dsimp only [runCell] at c1 HR hyr
                clear HC hcells2 hy hb9
                go_wp2
                exact ⟨⟨j + 1, M + y2, by omega, by go_num, by go_num, by omega, by omega, HR.out, by first | rfl | trivial⟩, by simp [intOf]; omega⟩
              · obtain rfl : j = FR'.length := by omega
                have hfin : M = A + sz := by
                  have h1 := HC.out
                  rw [List.drop_length] at h1
                  have h2 : sumRuns [] = 0 := rfl
                  have := HSM.out
                  omega
                subst hfin
                clear HC HSM hb9
                go_wp2
                exact ⟨⟨k + 1, by omega, by go_num, B11⟩, by simp [intOf]; omega⟩
          · obtain rfl : k = l.length := by omega
            clear HL' HS
            go_wp2
            go_ret
            exact ⟨rfl, BQ⟩

end Go.Proofs.Ytaklbnabgcglhac.regionRuns
