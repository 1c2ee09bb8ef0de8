/- The walk of the law RegionClear: it returns true. -/
import Derived.Test.YtaklbnabgcglhacRegB
namespace Go.Proofs.Ytaklbnabgcglhac.regionClear
open Go.RowKit Go.PlainAid

set_option maxRecDepth 100000

theorem first_clear {L : List Plc} {many x : Int} (h : chkReg L = 0) (hm : 1 ≤ many) (hx0 : 0 ≤ x) (hx : x + many ≤ 16) (hc : clearAt many L x) (hn : ∀ y, 0 ≤ y → y < x → ¬ clearAt many L y) : firstRes L many = (x, 0) := by
  unfold firstRes
  rw [if_neg (by omega), if_neg (by omega)]
  rcases fit_spec hm (chkReg_zero.1 h).2.2 with ⟨r, h1, h2, h3, h4, h5⟩ | ⟨h1, h2⟩
  · rw [h1]
    have : r.1 = x := by
      rcases Int.lt_trichotomy r.1 x with g | g | g
      · exact absurd h4 (hn _ h2 g)
      · exact g
      · exact absurd hc (h5 _ hx0 g)
    dsimp only
    rw [this]
  · exact absurd hc (h2 x hx0 hx)
theorem first_none {L : List Plc} {many x : Int} (h : chkReg L = 0) (hx : many < 1 ∨ 16 < x + many) (hn : ∀ y, 0 ≤ y → y < x → ¬ clearAt many L y) : (firstRes L many).2 = 8 ∨ (firstRes L many).2 = 3 := by
  unfold firstRes
  rw [if_neg (by omega)]
  by_cases hm : many < 1 ∨ 16 < many
  · rw [if_pos hm]
    exact .inr rfl
  · rw [if_neg hm]
    rcases fit_spec (show 1 ≤ many by omega) (chkReg_zero.1 h).2.2 with ⟨r, h1, h2, h3, h4, h5⟩ | ⟨h1, h2⟩
    · exact absurd h4 (hn _ h2 (by omega))
    · rw [h1]
      exact .inl rfl
theorem runs_all {L : List Plc} (h : chkReg L = 0) : (∀ r ∈ runsFrom 0 L, 0 ≤ r.2 ∧ r.2 ≤ 16) ∧ (runsFrom 0 L).length ≤ 9 ∧ sumRuns (runsFrom 0 L) + sumSz L = 16 := by
  obtain ⟨h1, h2, h3⟩ := chkReg_zero.1 h
  refine ⟨?_, Nat.le_trans (runs_len _ _) (by omega), by have := sum_runs L 0; omega⟩
  have key : ∀ (l : List (Int × Int)) (e : Int), 0 ≤ e → rises e l → ∀ r ∈ l, 0 ≤ r.2 ∧ r.2 ≤ 16 := by
    intro l
    induction l with
    | nil => intro e _ _ r hr; simp at hr
    | cons x l ih =>
      intro e he hr r hrl
      obtain ⟨g1, g2, g3, g4⟩ := hr
      rcases List.mem_cons.1 hrl with rfl | hrl
      · omega
      · exact ih _ (by omega) g4 r hrl
  exact key _ 0 (by omega) (runs_rise h3)

set_option maxHeartbeats 8000000 in
theorem walk (l : List PV) (v : Value) (many : Int) (W : World) (hP : IsPlcs W.heap.size W v l) (hfit : ∀ x ∈ l, x.mod.fits) (hw : (Lit.int .i64 many).wf = true) :
    Calls Try.prog 7 #[v, .int .i64 many] W fun e W' => e = .returned (.bool true) ∧ Below W.heap.size W W' := by
  have HF1 : Hid (∀ W', Below W.heap.size W W' → Calls Try.prog 17 #[v, .int .i64 many] W' fun e w' => e = .returned (.tuple #[.int .i64 (firstRes (l.map PV.plc) many).1, .int .i64 (firstRes (l.map PV.plc) many).2]) ∧ Below W'.heap.size W' w') := fun W' hb => first_any l v many W' ((hP.below hb).more hb.size) hfit
  have HF2 : Hid (∀ W', Below W.heap.size W W' → Calls Try.prog 16 #[v] W' fun e w' => (∃ r, e = .returned (.tuple #[r, .int .i64 (chkReg (l.map PV.plc))]) ∧ RowOf 2 runCell w'.heap.size w' r (freeRes (l.map PV.plc))) ∧ Below W'.heap.size W' w') := fun W' hb => free_any l v W' ((hP.below hb).more hb.size) hfit
  have HS : Hid (∀ x ∈ l, ∀ W', Below W.heap.size W W' → Calls Try.prog 15 #[x.modV] W' fun e w' => e = .returned (.tuple #[.int .i64 (if chkMod x.mod = 0 then (szM x.mod : Int) else 0), .int .i64 (chkMod x.mod)]) ∧ Below W'.heap.size W' w') := fun x hx W' hb => size_any x.mod x.modV W' (((hP.2 x hx).below hb).more hb.size |>.isMod) (hfit x hx)
  have hat := hP.2
  obtain ⟨⟨a, cap, rfl, _, hrow⟩, _⟩ := hP
  have hmb : many ≤ 9223372036854775807 ∧ -9223372036854775808 ≤ many := by
    have h := hw
    simp only [Lit.wf, Bool.and_eq_true, decide_eq_true_eq] at h
    exact ⟨h.2, h.1⟩
  have key : (chkReg (l.map PV.plc) ≠ 0 ∧ firstRes (l.map PV.plc) many = (0, chkReg (l.map PV.plc)) ∧ freeRes (l.map PV.plc) = []) ∨ (chkReg (l.map PV.plc) = 0 ∧ freeRes (l.map PV.plc) = runsFrom 0 (l.map PV.plc)) := by
    unfold firstRes freeRes
    by_cases h : chkReg (l.map PV.plc) = 0
    · exact .inr ⟨h, if_pos h⟩
    · exact .inl ⟨h, if_pos h, if_neg h⟩
  have HZ : Hid (chkReg (l.map PV.plc) = 0 → (∀ x ∈ l, chkMod x.mod = 0 ∧ 0 ≤ x.first ∧ x.first + szM x.mod ≤ 16 ∧ 1 ≤ szM x.mod) ∧ l.length ≤ 8) := by
    intro h
    obtain ⟨h1, h2, h3⟩ := chkReg_zero.1 h
    refine ⟨fun x hx => ?_, by simpa using h1⟩
    have := okPl_first h3 x.plc (List.mem_map_of_mem hx)
    exact ⟨h2 _ (List.mem_map_of_mem hx), by exact this.1, by exact this.2.2, by exact this.2.1⟩
  have HRA : Hid (chkReg (l.map PV.plc) = 0 → (∀ r ∈ runsFrom 0 (l.map PV.plc), 0 ≤ r.2 ∧ r.2 ≤ 16) ∧ (runsFrom 0 (l.map PV.plc)).length ≤ 9 ∧ sumRuns (runsFrom 0 (l.map PV.plc)) + sumSz (l.map PV.plc) = 16) := runs_all
  have HFC : Hid (∀ x, chkReg (l.map PV.plc) = 0 → 1 ≤ many → 0 ≤ x → x + many ≤ 16 → clearAt many (l.map PV.plc) x → (∀ y, 0 ≤ y → y < x → ¬ clearAt many (l.map PV.plc) y) → firstRes (l.map PV.plc) many = (x, 0)) := fun x => first_clear
  have HFN : Hid (∀ x, chkReg (l.map PV.plc) = 0 → (many < 1 ∨ 16 < x + many) → (∀ y, 0 ≤ y → y < x → ¬ clearAt many (l.map PV.plc) y) → (firstRes (l.map PV.plc) many).2 = 8 ∨ (firstRes (l.map PV.plc) many).2 = 3) := fun x => first_none
  generalize hFRS : firstRes (l.map PV.plc) many = fs at *
  obtain ⟨fn, fe⟩ := fs
  clear hFRS
  generalize runsFrom 0 (l.map PV.plc) = RF at *
  generalize freeRes (l.map PV.plc) = FR at *
  generalize chkReg (l.map PV.plc) = cr at *
  dsimp only at *
  go_enter Try.func7, Try.ntmps7
  go_wp2_with fail
  refine (HF1.out W (Below.refl _ _)).mono ?_
  rintro e w1 ⟨rfl, B1⟩
  clear HF1
  go_wp2_with fail
  refine (regionBegun_any _).mono ?_
  rintro e w2 ⟨rfl, b2⟩
  have B2 := B1.trans (b2.mono B1.size)
  clear b2 B1
  go_wp2_with fail
  refine (HF2.out w2 B2).mono ?_
  rintro e w3 ⟨⟨r, rfl, hR⟩, b3⟩
  have B3 := B2.trans (b3.mono B2.size)
  clear b3 B2 HF2
  obtain ⟨ar, kr, rfl, _, hR⟩ := hR
  rcases key with ⟨h0, he, rfl⟩ | ⟨rfl, rfl⟩
  · obtain ⟨rfl, rfl⟩ : fn = 0 ∧ fe = cr := by simpa using he
    have h0' : (fe != 0) = true := by simpa using h0
    clear HZ HRA HFC HFN HS hrow hat hR
    go_wp2
    go_ret
    exact ⟨rfl, B3⟩
  · obtain ⟨hz, h8⟩ := HZ.out (by first | rfl | trivial)
    obtain ⟨ra, r9, rs⟩ := HRA.out (by first | rfl | trivial)
    have HSUM : Hid (sumRuns FR + sumSz (l.map PV.plc) = 16) := rs
    have HFC' : Hid (∀ x, 1 ≤ many → 0 ≤ x → x + many ≤ 16 → clearAt many (l.map PV.plc) x → (∀ y, 0 ≤ y → y < x → ¬ clearAt many (l.map PV.plc) y) → (fn, fe) = (x, 0)) := fun x => HFC.out x (by first | rfl | trivial)
    have HFN' : Hid (∀ x, (many < 1 ∨ 16 < x + many) → (∀ y, 0 ≤ y → y < x → ¬ clearAt many (l.map PV.plc) y) → fe = 8 ∨ fe = 3) := fun x => HFN.out x (by first | rfl | trivial)
    clear HZ HRA HFC HFN rs
    go_wp2_with fail
    go_loopw [9, 10] (fun s i wr => ∃ (k : Nat) (A : Int), k ≤ FR.length ∧ i = .int .i64 k ∧ s = .int .i64 A ∧ 0 ≤ A ∧ A ≤ 16 * k ∧ Hid (sumRuns FR = A + sumRuns (FR.drop k)) ∧ wr = w3) (fun _ i _ => FR.length - (intOf i).toNat)
    case atStart => exact ⟨0, 0, Nat.zero_le _, rfl, rfl, by omega, by omega, by show sumRuns FR = 0 + sumRuns (FR.drop 0); simp, rfl⟩
    case round =>
      obtain ⟨k, A, hk, rfl, rfl, hA0, hA1, HC, rfl⟩ := hrel
      by_cases hlt : k < FR.length
      · obtain ⟨x, hx⟩ : ∃ x, FR[k]? = some x := ⟨_, List.getElem?_eq_getElem hlt⟩
        have hxr := ra x (List.mem_of_getElem? hx)
        rcases hR with h | ⟨b, off, rfl, hbn, hcells⟩
        · subst h; simp at hlt
        have c1 := hcells k _ hx 1 (by omega)
        have HR : Hid (sumRuns FR = (A + x.2) + sumRuns (FR.drop (k + 1))) := by
          show sumRuns FR = _
          rw [HC.out, drop_at hx]
          simp [sumRuns]; omega
        obtain ⟨x1, x2⟩ := x
        dsimp only [runCell] at c1 HR hxr
        clear HC hcells hx ra
        go_wp2
        exact ⟨⟨k + 1, A + x2, by omega, by go_num, by go_num, by omega, by omega, HR.out, by first | rfl | trivial⟩, by simp [intOf]; omega⟩
      · obtain rfl : k = FR.length := by omega
        have HS1 : Hid (A + sumSz (l.map PV.plc) = 16) := by
          show A + sumSz (l.map PV.plc) = 16
          have h1 := HC.out
          rw [List.drop_length] at h1
          have h2 : sumRuns [] = 0 := rfl
          have := HSUM.out
          omega
        have hA2 : A ≤ 144 := by omega
        clear HC HSUM ra
        go_wp2_with fail
        go_loopw [9, 11] (fun s i wr => ∃ (k : Nat) (A : Int), k ≤ l.length ∧ i = .int .i64 k ∧ s = .int .i64 A ∧ 0 ≤ A ∧ A ≤ 144 + 16 * k ∧ Hid (A + sumSz ((l.drop k).map PV.plc) = 16) ∧ Below W.heap.size W wr) (fun _ i _ => l.length - (intOf i).toNat)
        case atStart => exact ⟨0, A, Nat.zero_le _, rfl, rfl, hA0, by omega, by show A + sumSz ((l.drop 0).map PV.plc) = 16; exact HS1.out, B3⟩
        case round =>
          clear HS1 hA0 hA1 hA2 hlt hk
          obtain ⟨k, A, hk, rfl, rfl, hA0, hA1, HC, B⟩ := hrel
          by_cases hlt : k < l.length
          · obtain ⟨x, hx⟩ : ∃ x, l[k]? = some x := ⟨_, List.getElem?_eq_getElem hlt⟩
            have hxr := hz x (List.mem_of_getElem? hx)
            have HSx : Hid (∀ W', Below W.heap.size W W' → Calls Try.prog 15 #[x.modV] W' fun e w' => e = .returned (.tuple #[.int .i64 (szM x.mod : Int), .int .i64 0]) ∧ Below W'.heap.size W' w') := by
              intro W' hb
              have := HS.out x (List.mem_of_getElem? hx) W' hb
              rw [hxr.1, if_pos rfl] at this
              exact this
            have HR : Hid (A + szM x.mod + sumSz ((l.drop (k + 1)).map PV.plc) = 16) := by
              show A + szM x.mod + sumSz ((l.drop (k + 1)).map PV.plc) = 16
              have := HC.out
              rw [drop_at hx] at this
              simp [sumSz, PV.plc] at this ⊢
              omega
            rcases hrow with h | ⟨b, off, rfl, hbn, hcells⟩
            · subst h; simp at hlt
            obtain ⟨⟨pe, ke, e4, _⟩, ⟨pi, ki, e5, _⟩, ⟨pp, kp, e6, _⟩⟩ := hat x (List.mem_of_getElem? hx)
            generalize hsz : szM x.mod = sz at *
            obtain ⟨⟨N, ma, mi, T, es, is, ps⟩, ve, vi, vp, fi⟩ := x
            dsimp only at e4 e5 e6
            subst e4 e5 e6
            have c0 := (B.cell (p := ⟨b, off + k * 8 + 0, none⟩) hbn).trans (hcells k _ hx 0 (by omega))
            have c1 := (B.cell (p := ⟨b, off + k * 8 + 1, none⟩) hbn).trans (hcells k _ hx 1 (by omega))
            have c2 := (B.cell (p := ⟨b, off + k * 8 + 2, none⟩) hbn).trans (hcells k _ hx 2 (by omega))
            have c3 := (B.cell (p := ⟨b, off + k * 8 + 3, none⟩) hbn).trans (hcells k _ hx 3 (by omega))
            have c4 := (B.cell (p := ⟨b, off + k * 8 + 4, none⟩) hbn).trans (hcells k _ hx 4 (by omega))
            have c5 := (B.cell (p := ⟨b, off + k * 8 + 5, none⟩) hbn).trans (hcells k _ hx 5 (by omega))
            have c6 := (B.cell (p := ⟨b, off + k * 8 + 6, none⟩) hbn).trans (hcells k _ hx 6 (by omega))
            dsimp only [PV.cell] at c0 c1 c2 c3 c4 c5 c6
            dsimp only [PV.modV] at HSx
            dsimp only at hxr HR
            rw [Nat.add_zero] at c0
            clear HC hcells hx hat hsz hz HS HFC' HFN'
            obtain ⟨_, hf0, hf1, hf2⟩ := hxr
            generalize es.length = le at *
            generalize is.length = li at *
            generalize ps.length = lp at *
            go_wp2_with fail
            refine (HSx.out _ B).mono ?_
            rintro e w5 ⟨rfl, b5⟩
            have B5 := B.trans (b5.mono B.size)
            clear b5 HSx c0 c1 c2 c3 c4 c5 c6
            go_wp2
            exact ⟨⟨k + 1, A + sz, by omega, by go_num, by go_num, by omega, by omega, HR.out, B5⟩, by simp [intOf]; omega⟩
          · obtain rfl : k = l.length := by omega
            obtain rfl : A = 16 := by
              have := HC.out
              rw [List.drop_length] at this
              simpa [sumSz] using this
            clear HC hA0 hA1
            go_wp2_with fail
            go_loopw [14] (fun i wr => ∃ (y : Nat), i = .int .i64 y ∧ y ≤ 17 ∧ (y = 0 ∨ (1 ≤ many ∧ (y : Int) + many ≤ 17)) ∧ Hid (∀ z : Int, 0 ≤ z → z < y → ¬ clearAt many (l.map PV.plc) z) ∧ Below W.heap.size W wr) (fun i _ => 17 - (intOf i).toNat)
            case atStart => exact ⟨0, rfl, by omega, .inl rfl, by show ∀ z : Int, 0 ≤ z → z < (0 : Nat) → ¬ clearAt many (l.map PV.plc) z; intro z h1 h2; omega, B⟩
            case round =>
              obtain ⟨y, rfl, hy, hym, HN, B⟩ := hrel
              by_cases hin : 1 ≤ many ∧ (y : Int) ≤ 16 - many
              · obtain ⟨hm1, hm2⟩ := hin
                have hwr : IntKind.i64.wrap (16 - many) = 16 - many := by rw [i64_is]; unfold wrap64; omega
                clear hym
                go_wp2_with fail
                go_loopw [15, 16] (fun c i wr => ∃ (k : Nat) (t : Bool), k ≤ l.length ∧ i = .int .i64 k ∧ c = .bool t ∧ Hid (t = true ↔ ∀ x ∈ l.take k, x.first + szM x.mod ≤ (y : Int) ∨ (y : Int) + many ≤ x.first) ∧ Below W.heap.size W wr) (fun _ i _ => l.length - (intOf i).toNat)
                case atStart => exact ⟨0, true, Nat.zero_le _, rfl, rfl, by show true = true ↔ ∀ x ∈ l.take 0, x.first + szM x.mod ≤ (y : Int) ∨ (y : Int) + many ≤ x.first; simp, B⟩
                case round =>
                  obtain ⟨k, t, hk, rfl, rfl, HT, B⟩ := hrel
                  by_cases hlt : k < l.length
                  · obtain ⟨x, hx⟩ : ∃ x, l[k]? = some x := ⟨_, List.getElem?_eq_getElem hlt⟩
                    have hxr := hz x (List.mem_of_getElem? hx)
                    have HSx : Hid (∀ W', Below W.heap.size W W' → Calls Try.prog 15 #[x.modV] W' fun e w' => e = .returned (.tuple #[.int .i64 (szM x.mod : Int), .int .i64 0]) ∧ Below W'.heap.size W' w') := by
                      intro W' hb
                      have := HS.out x (List.mem_of_getElem? hx) W' hb
                      rw [hxr.1, if_pos rfl] at this
                      exact this
                    have HR : Hid (∀ u : Bool, (u = true ↔ t = true ∧ (x.first + szM x.mod ≤ (y : Int) ∨ (y : Int) + many ≤ x.first)) → (u = true ↔ ∀ x ∈ l.take (k + 1), x.first + szM x.mod ≤ (y : Int) ∨ (y : Int) + many ≤ x.first)) := by
                      intro u hu
                      rw [hu, HT.out]
                      have : l.take (k + 1) = l.take k ++ [x] := by
                        rw [List.take_add_one, hx]; rfl
                      rw [this]
                      constructor
                      · rintro ⟨g1, g2⟩ z hz
                        rcases List.mem_append.1 hz with hz | hz
                        · exact g1 z hz
                        · rw [List.mem_singleton.1 hz]; exact g2
                      · intro g
                        exact ⟨fun z hz => g z (List.mem_append_left _ hz), g x (by simp)⟩
                    rcases hrow with h | ⟨b, off, rfl, hbn, hcells⟩
                    · subst h; simp at hlt
                    obtain ⟨⟨pe, ke, e4, _⟩, ⟨pi, ki, e5, _⟩, ⟨pp, kp, e6, _⟩⟩ := hat x (List.mem_of_getElem? hx)
                    generalize hsz : szM x.mod = sz at *
                    obtain ⟨⟨N, ma, mi, T, es, is, ps⟩, ve, vi, vp, fi⟩ := x
                    dsimp only at e4 e5 e6
                    subst e4 e5 e6
                    have c0 := (B.cell (p := ⟨b, off + k * 8 + 0, none⟩) hbn).trans (hcells k _ hx 0 (by omega))
                    have c1 := (B.cell (p := ⟨b, off + k * 8 + 1, none⟩) hbn).trans (hcells k _ hx 1 (by omega))
                    have c2 := (B.cell (p := ⟨b, off + k * 8 + 2, none⟩) hbn).trans (hcells k _ hx 2 (by omega))
                    have c3 := (B.cell (p := ⟨b, off + k * 8 + 3, none⟩) hbn).trans (hcells k _ hx 3 (by omega))
                    have c4 := (B.cell (p := ⟨b, off + k * 8 + 4, none⟩) hbn).trans (hcells k _ hx 4 (by omega))
                    have c5 := (B.cell (p := ⟨b, off + k * 8 + 5, none⟩) hbn).trans (hcells k _ hx 5 (by omega))
                    have c6 := (B.cell (p := ⟨b, off + k * 8 + 6, none⟩) hbn).trans (hcells k _ hx 6 (by omega))
                    have d7 := hcells k _ hx 7 (by omega)
                    dsimp only [PV.cell] at c0 c1 c2 c3 c4 c5 c6 d7
                    dsimp only [PV.modV] at HSx
                    dsimp only at hxr HR
                    rw [Nat.add_zero] at c0
                    clear hcells hx hat hsz hz HS HFC' HFN' HN HT
                    obtain ⟨_, hf0, hf1, hf2⟩ := hxr
                    generalize es.length = le at *
                    generalize is.length = li at *
                    generalize ps.length = lp at *
                    go_wp2_with fail
                    refine (HSx.out _ B).mono ?_
                    rintro e w5 ⟨rfl, b5⟩
                    have B5 := B.trans (b5.mono B.size)
                    have c7 := (B5.cell (p := ⟨b, off + k * 8 + 7, none⟩) hbn).trans d7
                    clear b5 HSx c0 c1 c2 c3 c4 c5 c6 d7
                    cases t
                    · go_wp2
                      exact ⟨⟨k + 1, false, by omega, by go_num, rfl, HR.out false (by simp), B5⟩, by simp [intOf]; omega⟩
                    · by_cases g1 : fi + (sz : Int) ≤ (y : Int)
                      · have g1' : decide (fi + (sz : Int) ≤ (y : Int)) = true := decide_eq_true g1
                        go_wp2
                        exact ⟨⟨k + 1, true, by omega, by go_num, rfl, HR.out true (by simp [g1]), B5⟩, by simp [intOf]; omega⟩
                      · have g1' : decide (fi + (sz : Int) ≤ (y : Int)) = false := decide_eq_false g1
                        by_cases g2 : (y : Int) + many ≤ fi
                        · have g2' : decide ((y : Int) + many ≤ fi) = true := decide_eq_true g2
                          go_wp2
                          exact ⟨⟨k + 1, true, by omega, by go_num, rfl, HR.out true (by simp [g2]), B5⟩, by simp [intOf]; omega⟩
                        · have g2' : decide ((y : Int) + many ≤ fi) = false := decide_eq_false g2
                          go_wp2
                          exact ⟨⟨k + 1, false, by omega, by go_num, rfl, HR.out false (by simp [g1, g2]), B5⟩, by simp [intOf]; omega⟩
                  · obtain rfl : k = l.length := by omega
                    have HT' : Hid (t = true ↔ clearAt many (l.map PV.plc) y) := by
                      show t = true ↔ clearAt many (l.map PV.plc) y
                      rw [HT.out, List.take_length]
                      unfold clearAt
                      simp [PV.plc]
                    clear HT
                    cases t
                    · have HN' : Hid (∀ z : Int, 0 ≤ z → z < ((y + 1 : Nat) : Int) → ¬ clearAt many (l.map PV.plc) z) := by
                        intro z h1 h2
                        by_cases hzy : z = y
                        · rw [hzy]
                          intro hcl
                          have := HT'.out.2 hcl
                          cases this
                        · exact HN.out z h1 (by omega)
                      clear HT' HN
                      go_wp2
                      exact ⟨⟨y + 1, by go_num, by omega, .inr ⟨hm1, by omega⟩, HN'.out, B⟩, by simp [intOf]; omega⟩
                    · have hfin := HFC'.out y hm1 (by omega) (by omega) (HT'.out.1 rfl) HN.out
                      obtain ⟨rfl, rfl⟩ : fn = y ∧ fe = 0 := by simpa using hfin
                      clear HT' HN hfin
                      go_wp2
                      go_ret
                      exact ⟨rfl, B⟩
              · have hfin := HFN'.out y (by omega) HN.out
                clear HN HFC' HFN'
                by_cases hm1 : 1 ≤ many
                · have hwr : IntKind.i64.wrap (16 - many) = 16 - many := by rw [i64_is]; unfold wrap64; omega
                  have hd : decide ((y : Int) ≤ 16 - many) = false := decide_eq_false (by omega)
                  rcases hfin with rfl | rfl
                  · go_wp2
                    go_ret
                    exact ⟨rfl, B⟩
                  · go_wp2
                    go_ret
                    exact ⟨rfl, B⟩
                · have hd : decide (1 ≤ many) = false := decide_eq_false hm1
                  rcases hfin with rfl | rfl
                  · go_wp2
                    go_ret
                    exact ⟨rfl, B⟩
                  · go_wp2
                    go_ret
                    exact ⟨rfl, B⟩

end Go.Proofs.Ytaklbnabgcglhac.regionClear
