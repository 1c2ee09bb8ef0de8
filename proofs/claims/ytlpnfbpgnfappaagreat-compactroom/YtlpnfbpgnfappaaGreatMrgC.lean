/- Texts that are laid together. -/
import Derived.Test.YtlpnfbpgnfappaaGreatMrgB
import Derived.Laws.Rows
import Derived.Laws.ResultCell
import Derived.Deep.AppendLies

/- The contract of the document's CheckExports. -/
namespace Go.Proofs.YtlpnfbpgnfappaaGreat
open Go.RowKit Go.PlainAid

theorem any_take_succ {α : Type} (l : List α) (p : α → Bool) (j : Nat) (x : α) (h : l[j]? = some x) : (l.take (j + 1)).any p = ((l.take j).any p || p x) := by
  rw [List.take_add_one, h]; simp
theorem any_take_le {α : Type} (l : List α) (p : α → Bool) (j k : Nat) (x : α) (h : l[j]? = some x) (hk : j < k) (hp : p x = true) : (l.take k).any p = true := by
  rw [List.any_eq_true]
  refine ⟨x, ?_, hp⟩
  rw [List.mem_iff_getElem?]
  exact ⟨j, by rw [List.getElem?_take_of_lt hk]; exact h⟩

theorem toList_beq2 (x y : ByteArray) : (x.toList == y.toList) = (x == y) := by
  rw [Bool.eq_iff_iff, ba_beq, beq_iff_eq, ByteArray.toList_eq, ByteArray.toList_eq]
  constructor
  · intro h; exact ByteArray.ext (Array.toList_inj.1 h)
  · rintro rfl; rfl

set_option maxHeartbeats 2000000 in
theorem checkExports_any (l : List Exp) (v : Value) (most : Int) (w : World) (hrow : RowOf 2 Exp.cell w.heap.size w v l) (hfit : ∀ e ∈ l, e.name.size ≤ 9223372036854775807) (hl : l.length ≤ 8) (hm0 : 0 ≤ most) (hm1 : most ≤ 140737488351232) :
    Calls Tryz.prog 110 #[v, .int .i64 most] w fun e w' => e = .returned (.int .i64 (chkExps most [] l)) ∧ Below w.heap.size w w' := by
  obtain ⟨a, cap, rfl, _, hrow⟩ := hrow
  go_enter Tryz.func110, Tryz.ntmps110
  go_wp2
  go_loopw [5] (fun i wr => ∃ (k : Nat), k ≤ l.length ∧ i = .int .i64 k ∧ Hid (chkExps most [] l = chkExps most ((l.take k).map (·.name)) (l.drop k)) ∧ Below w.heap.size w wr) (fun i _ => l.length - (intOf i).toNat)
  case atStart => exact ⟨0, Nat.zero_le _, rfl, by show chkExps most [] l = chkExps most [] (l.drop 0); rfl, Below.refl _ _⟩
  case round =>
    obtain ⟨k, hk, rfl, HC, B⟩ := hrel
    by_cases hlt : k < l.length
    · obtain ⟨p, hp⟩ : ∃ p, l[k]? = some p := ⟨_, List.getElem?_eq_getElem hlt⟩
      rcases hrow with h | ⟨b, off, rfl, hbn, hcells⟩
      · subst h; simp at hlt
      obtain ⟨n, A⟩ := p
      have hn := hfit _ (List.mem_of_getElem? hp)
      dsimp only at hn
      have c0 := (B.cell (p := ⟨b, off + k * 2 + 0, none⟩) hbn).trans (hcells k _ hp 0 (by omega))
      have c1 := (B.cell (p := ⟨b, off + k * 2 + 1, none⟩) hbn).trans (hcells k _ hp 1 (by omega))
      dsimp only [Exp.cell] at c0 c1
      rw [Nat.add_zero] at c0
      have HCELL : Hid (∀ j e, l[j]? = some e → w.cell? ⟨b, off + j * 2, none⟩ = some (.string e.name)) := fun j e hj => hcells j e hj 0 (by omega)
      have htk : (l.take (k + 1)).map (·.name) = (l.take k).map (·.name) ++ [n] := by rw [List.take_add_one, hp]; simp
      have HR : Hid (chkExps most [] l = if expErr most ((l.take k).map (·.name)) ⟨n, A⟩ = 0 then chkExps most ((l.take (k + 1)).map (·.name)) (l.drop (k + 1)) else expErr most ((l.take k).map (·.name)) ⟨n, A⟩) := by
        show chkExps most [] l = _
        rw [HC.out, drop_at hp, htk]; rfl
      clear HC hcells htk
      cases h1 : isNm n
      · have HV : Hid (expErr most ((l.take k).map (·.name)) ⟨n, A⟩ = 1) := by show expErr _ _ _ = 1; simp [expErr, h1]
        go_wp2_with (go_at_call 108; refine (isNameR_any _ _ (by assumption)).mono ?_; rintro e w' ⟨rfl, rfl⟩)
        go_ret
        exact ⟨by rw [HR.out, HV.out]; rfl, B⟩
      · go_wp2_with (go_at_call 108; refine (isNameR_any _ _ (by assumption)).mono ?_; rintro e w' ⟨rfl, rfl⟩)
        go_loopw [6] (fun i wr2 => ∃ (j : Nat), j ≤ k ∧ i = .int .i64 j ∧ Hid (((l.take j).map (·.name)).any (fun x => x == n) = false) ∧ Below w.heap.size w wr2) (fun i _ => k - (intOf i).toNat)
        case atStart => exact ⟨0, Nat.zero_le _, rfl, by show (((l.take 0).map (·.name)).any (fun x => x == n) = false); rfl, B⟩
        case round =>
          obtain ⟨j, hj, rfl, HN, B2⟩ := hrel
          by_cases hjk : j < k
          · obtain ⟨q, hq⟩ : ∃ q, l[j]? = some q := ⟨_, List.getElem?_eq_getElem (by omega)⟩
            obtain ⟨n', A'⟩ := q
            have d0 := (B2.cell (p := ⟨b, off + j * 2, none⟩) hbn).trans (HCELL.out j _ hq)
            have d1 := (B2.cell (p := ⟨b, off + k * 2, none⟩) hbn).trans (HCELL.out k _ hp)
            dsimp only at d0 d1
            have hel := toList_beq2 n' n
            cases he : n' == n
            all_goals rw [he] at hel
            · have HN2 : Hid (((l.take (j + 1)).map (·.name)).any (fun x => x == n) = false) := by
                show ((l.take (j + 1)).map (·.name)).any (fun x => x == n) = false
                rw [List.take_add_one, hq]
                have := HN.out
                simp only [List.map_append, List.any_append, this]
                simp [he]
              clear hq hp c0 c1
              go_wp2
              go_quiet (fail)
              go_wp2
              exact ⟨⟨j + 1, by omega, by go_num, HN2, below_drewN B2 _⟩, by simp [intOf]; omega⟩
            · have HV : Hid (expErr most ((l.take k).map (·.name)) ⟨n, A⟩ = 6) := by
                show expErr _ _ _ = 6
                have : ((l.take k).map (·.name)).any (fun x => x == n) = true := by
                  rw [List.any_map]
                  exact any_take_le l _ j k _ hq hjk he
                simp only [expErr, h1, this]; rfl
              clear hq hp c0 c1
              go_wp2
              go_quiet (fail)
              go_wp2
              go_ret
              exact ⟨by rw [HR.out, HV.out]; rfl, below_drewN B2 _⟩
          · obtain rfl : j = k := by omega
            have d1 := (B2.cell (p := ⟨b, off + j * 2 + 1, none⟩) hbn).trans ((B.cell (p := ⟨b, off + j * 2 + 1, none⟩) hbn).symm.trans c1)
            cases h3 : betw A 0 (most - 1)
            · have HV : Hid (expErr most ((l.take j).map (·.name)) ⟨n, A⟩ = 3) := by show expErr _ _ _ = 3; simp only [expErr, h1, HN.out, h3]; rfl
              clear hp c0 c1
              go_wp2_with (go_at_call 109; refine (between_any _ _ _ _).mono ?_; rintro e w' ⟨rfl, rfl⟩)
              go_ret
              exact ⟨by rw [HR.out, HV.out]; rfl, B2⟩
            · have HV : Hid (expErr most ((l.take j).map (·.name)) ⟨n, A⟩ = 0) := by show expErr _ _ _ = 0; simp only [expErr, h1, HN.out, h3]; rfl
              clear hp c0 c1
              go_wp2_with (go_at_call 109; refine (between_any _ _ _ _).mono ?_; rintro e w' ⟨rfl, rfl⟩)
              exact ⟨⟨j + 1, by omega, by go_num, by show chkExps most [] l = _; rw [HR.out, if_pos HV.out], B2⟩, by simp [intOf]; omega⟩
    · obtain rfl : k = l.length := by omega
      have HZ : Hid (chkExps most [] l = 0) := by
        show chkExps most [] l = 0
        rw [HC.out, List.drop_length]; rfl
      go_wp2
      go_ret
      exact ⟨by rw [HZ.out]; rfl, B⟩

end Go.Proofs.YtlpnfbpgnfappaaGreat

/- The contract of the document's CheckModule. -/
namespace Go.Proofs.YtlpnfbpgnfappaaGreat
open Go.RowKit Go.PlainAid

theorem impErr_own (met : List (ByteArray × ByteArray)) (i : Imp) : impErr met i = if impOwn i = 1 then 1 else if (met.any fun x => x.1 == i.mod && x.2 == i.name) = true then 6 else impOwn i := by
  unfold impErr impOwn
  cases h1 : isNm i.mod && isNm i.name
  · simp
  · cases h2 : isVer i.major i.minor
    · simp
    · simp
theorem impOwn_three (i : Imp) : impOwn i = 1 ∨ impOwn i = 3 ∨ impOwn i = 0 := by
  unfold impOwn
  cases h1 : isNm i.mod && isNm i.name
  · simp
  · cases h2 : isVer i.major i.minor <;> simp

set_option maxRecDepth 100000 in
set_option maxHeartbeats 4000000 in
/-- CheckModule's loops: where nothing is wrong ahead of the imports. -/
theorem checkModule_good (M : Mod) (pe pi pp : Option Addr) (ke ki kp : Nat) (w : World)
    (hE : RowOf 2 Exp.cell w.heap.size w (.slice pe M.exps.length ke) M.exps) (hI : RowOf 4 Imp.cell w.heap.size w (.slice pi M.imps.length ki) M.imps) (hP : RowOf 4 Pat.cell w.heap.size w (.slice pp M.pats.length kp) M.pats) (hf : M.fits)
    (h1 : isNm M.name = true) (h2 : (M.name.toList == [107, 101, 114, 110, 101, 108]) = false) (h3 : betw M.major 0 255 = true) (h4 : betw M.minor 0 255 = true) (t1 : M.text.size ≤ 256) (t2 : M.exps.length ≤ 6) (t3 : M.imps.length ≤ 6) (t4 : M.pats.length ≤ 12)
    (h5 : ((M.text.size : Int) == 0) = false) (h6 : decide (0 < (M.text.size : Int) % 4) = false) (h7 : chkExps M.text.size [] M.exps = 0) :
    Calls Tryz.prog 49 #[.agg #[.string M.name, .int .i64 M.major, .int .i64 M.minor, .string M.text, .slice pe M.exps.length ke, .slice pi M.imps.length ki, .slice pp M.pats.length kp]] w fun e w' =>
      e = .returned (.int .i64 (if chkImps [] M.imps ≠ 0 then chkImps [] M.imps else chkPats M.text.size M.imps.length 0 M.pats)) ∧ Below w.heap.size w w' := by
  generalize hRES : (if chkImps [] M.imps ≠ 0 then chkImps [] M.imps else chkPats M.text.size M.imps.length 0 M.pats) = RES
  have HRES : Hid ((if chkImps [] M.imps ≠ 0 then chkImps [] M.imps else chkPats M.text.size M.imps.length 0 M.pats) = RES) := hRES
  clear hRES
  obtain ⟨z1, z2, z3, z4⟩ := hf
  have HE : Hid (∀ w', Below w.heap.size w w' → Calls Tryz.prog 110 #[.slice pe M.exps.length ke, .int .i64 M.text.size] w' fun e w'' => e = .returned (.int .i64 0) ∧ Below w'.heap.size w' w'') := by
    intro w' hb
    have := checkExports_any M.exps _ M.text.size w' ((hE.below hb).more hb.size) z3 (by omega) (by omega) (by omega)
    rwa [h7] at this
  clear hE z3 h7
  obtain ⟨N, a, b, T, es, is, ps⟩ := M
  dsimp only at *
  have HZ4 : Hid (∀ e ∈ is, e.fits) := z4
  have g1 : decide (256 < (T.size : Int)) = false := decide_eq_false (by omega)
  have g1' : decide (256 < T.size) = false := decide_eq_false (by omega)
  have g2 : decide (6 < (es.length : Int)) = false := decide_eq_false (by omega)
  have g2' : decide (6 < es.length) = false := decide_eq_false (by omega)
  have g3 : decide (6 < (is.length : Int)) = false := decide_eq_false (by omega)
  have g3' : decide (6 < is.length) = false := decide_eq_false (by omega)
  have g4 : decide (12 < (ps.length : Int)) = false := decide_eq_false (by omega)
  have g4' : decide (12 < ps.length) = false := decide_eq_false (by omega)
  have HII : Hid (RowOf 4 Imp.cell w.heap.size w (.slice pi is.length ki) is) := hI
  have HPP : Hid (RowOf 4 Pat.cell w.heap.size w (.slice pp ps.length kp) ps) := hP
  have HW1 : Hid (Below w.heap.size w (w.alloc (.cells #[.string N, .int .i64 a, .int .i64 b, .string T, .slice pe es.length ke, .slice pi is.length ki, .slice pp ps.length kp] 31))) := (Below.refl _ _).alloc (Nat.le_refl _) _
  clear hI hP z4
  go_enter Tryz.func49, Tryz.ntmps49
  go_wp2_with (first
    | (go_at_call 108; refine (isNameR_any _ _ (by assumption)).mono ?_; rintro e w' ⟨rfl, rfl⟩)
    | (go_at_call 109; refine (between_any _ _ _ _).mono ?_; rintro e w' ⟨rfl, rfl⟩))
  refine (HE.out _ HW1.out).mono ?_
  rintro e w1 ⟨rfl, b1⟩
  have B1 := HW1.out.trans (b1.mono HW1.out.size)
  have cc : ∀ o, w1.cell? ⟨w.heap.size, o, none⟩ = (w.alloc (.cells #[.string N, .int .i64 a, .int .i64 b, .string T, .slice pe es.length ke, .slice pi is.length ki, .slice pp ps.length kp] 31)).cell? ⟨w.heap.size, o, none⟩ := fun o => b1.cell (p := ⟨w.heap.size, o, none⟩) (by simp)
  have hz1 : w.heap.size < w1.heap.size := by have := b1.size; simp at this; omega
  have d3 := cc 3
  have d5 := cc 5
  have d6 := cc 6
  simp at d3 d5 d6
  obtain ⟨_, _, e0, _, hI⟩ := (HII.out.below B1).more B1.size
  obtain ⟨_, _, e1, _, hP⟩ := (HPP.out.below B1).more B1.size
  cases e0; cases e1
  clear cc b1 HE HII HPP HW1 g1 g1' g2 g2' g3 g3' g4 g4' h1 h2 h3 h4 h6
  go_wp2
  go_loopw [4] (fun i wr => ∃ (k : Nat), k ≤ is.length ∧ i = .int .i64 k ∧ Hid (chkImps [] is = chkImps ((is.take k).map fun x => (x.mod, x.name)) (is.drop k)) ∧ Below w1.heap.size w1 wr) (fun i _ => is.length - (intOf i).toNat)
  case atStart => exact ⟨0, Nat.zero_le _, rfl, by show chkImps [] is = chkImps [] (is.drop 0); rfl, Below.refl _ _⟩
  case round =>
    obtain ⟨k, hk, rfl, HC, B⟩ := hrel
    have k5 := (B.cell (p := ⟨w.heap.size, 5, none⟩) hz1).trans d5
    by_cases hlt : k < is.length
    · obtain ⟨p, hp⟩ : ∃ p, is[k]? = some p := ⟨_, List.getElem?_eq_getElem hlt⟩
      rcases hI with h | ⟨bb, off, rfl, hbn, hcells⟩
      · subst h; simp at hlt
      have hpf := HZ4.out _ (List.mem_of_getElem? hp)
      obtain ⟨m, n, va, vb⟩ := p
      have HCELL : Hid (∀ j e, is[j]? = some e → w1.cell? ⟨bb, off + j * 4, none⟩ = some (.string e.mod) ∧ w1.cell? ⟨bb, off + j * 4 + 1, none⟩ = some (.string e.name)) := fun j e hj => ⟨hcells j e hj 0 (by omega), hcells j e hj 1 (by omega)⟩
      have c0 := (B.cell (p := ⟨bb, off + k * 4 + 0, none⟩) hbn).trans (hcells k _ hp 0 (by omega))
      have c1 := (B.cell (p := ⟨bb, off + k * 4 + 1, none⟩) hbn).trans (hcells k _ hp 1 (by omega))
      have c2 := (B.cell (p := ⟨bb, off + k * 4 + 2, none⟩) hbn).trans (hcells k _ hp 2 (by omega))
      have c3 := (B.cell (p := ⟨bb, off + k * 4 + 3, none⟩) hbn).trans (hcells k _ hp 3 (by omega))
      dsimp only [Imp.cell] at c0 c1 c2 c3
      rw [Nat.add_zero] at c0
      have htk : ((is.take (k + 1)).map fun x => (x.mod, x.name)) = ((is.take k).map fun x => (x.mod, x.name)) ++ [(m, n)] := by rw [List.take_add_one, hp]; simp
      have HR : Hid (chkImps [] is = if impErr ((is.take k).map fun x => (x.mod, x.name)) ⟨m, n, va, vb⟩ = 0 then chkImps ((is.take (k + 1)).map fun x => (x.mod, x.name)) (is.drop (k + 1)) else impErr ((is.take k).map fun x => (x.mod, x.name)) ⟨m, n, va, vb⟩) := by
        show chkImps [] is = _
        rw [HC.out, drop_at hp, htk]; rfl
      have HCI : Hid (∀ w, Calls Tryz.prog 111 #[.agg #[.string m, .string n, .int .i64 va, .int .i64 vb]] w fun e w' => e = .returned (.int .i64 (impOwn ⟨m, n, va, vb⟩)) ∧ Below w.heap.size w w') := fun w => checkImport_any ⟨m, n, va, vb⟩ w hpf
      have how := impOwn_three ⟨m, n, va, vb⟩
      have HIO := impErr_own ((is.take k).map fun x => (x.mod, x.name)) ⟨m, n, va, vb⟩
      dsimp only at HIO
      have HIO2 : Hid (impErr ((is.take k).map fun x => (x.mod, x.name)) ⟨m, n, va, vb⟩ = if impOwn ⟨m, n, va, vb⟩ = 1 then 1 else if (((is.take k).map fun x => (x.mod, x.name)).any fun x => x.1 == m && x.2 == n) = true then 6 else impOwn ⟨m, n, va, vb⟩) := HIO
      clear HC hcells htk HIO hpf
      generalize impErr ((is.take k).map fun x => (x.mod, x.name)) ⟨m, n, va, vb⟩ = IE at *
      generalize impOwn ⟨m, n, va, vb⟩ = IW at *
      by_cases ho : IW = 1
      · subst ho
        have HV : Hid (chkImps [] is = 1) := by show chkImps [] is = 1; rw [HR.out, HIO2.out]; rfl
        go_wp2_with fail
        refine (HCI.out _).mono ?_
        rintro e w2 ⟨rfl, b2⟩
        go_wp2
        go_ret
        exact ⟨by rw [← HRES.out, HV.out]; rfl, B1.trans ((B.trans (b2.mono B.size)).mono B1.size)⟩
      · have ho' : (IW == 1) = false := beq_eq_false_iff_ne.2 ho
        go_wp2_with fail
        refine (HCI.out _).mono ?_
        rintro e w2 ⟨rfl, b2⟩
        have B2 := B.trans (b2.mono B.size)
        clear c0 c1 c2 c3 k5
        go_wp2
        go_loopw [6] (fun i wr2 => ∃ (j : Nat), j ≤ k ∧ i = .int .i64 j ∧ Hid ((((is.take j).map fun x => (x.mod, x.name)).any fun x => x.1 == m && x.2 == n) = false) ∧ Below w1.heap.size w1 wr2) (fun i _ => k - (intOf i).toNat)
        case atStart => exact ⟨0, Nat.zero_le _, rfl, by show (((is.take 0).map fun x => (x.mod, x.name)).any fun x => x.1 == m && x.2 == n) = false; rfl, B2⟩
        case round =>
          obtain ⟨j, hj, rfl, HN, B3⟩ := hrel
          have k5 := (B3.cell (p := ⟨w.heap.size, 5, none⟩) hz1).trans d5
          by_cases hjk : j < k
          · obtain ⟨q, hq⟩ : ∃ q, is[j]? = some q := ⟨_, List.getElem?_eq_getElem (by omega)⟩
            obtain ⟨m', n', va', vb'⟩ := q
            have x0 := (B3.cell (p := ⟨bb, off + j * 4, none⟩) hbn).trans (HCELL.out j _ hq).1
            have x1 := (B3.cell (p := ⟨bb, off + j * 4 + 1, none⟩) hbn).trans (HCELL.out j _ hq).2
            have y0 := (B3.cell (p := ⟨bb, off + k * 4, none⟩) hbn).trans (HCELL.out k _ hp).1
            have y1 := (B3.cell (p := ⟨bb, off + k * 4 + 1, none⟩) hbn).trans (HCELL.out k _ hp).2
            dsimp only at x0 x1 y0 y1
            have hm := toList_beq2 m' m
            have hn := toList_beq2 n' n
            cases he : (m' == m && n' == n)
            · have HN2 : Hid ((((is.take (j + 1)).map fun x => (x.mod, x.name)).any fun x => x.1 == m && x.2 == n) = false) := by
                show (((is.take (j + 1)).map fun x => (x.mod, x.name)).any fun x => x.1 == m && x.2 == n) = false
                rw [List.take_add_one, hq]
                have := HN.out
                simp only [List.map_append, List.any_append, this]
                simp [he]
              have hsplit : (m'.toList == m.toList) = false ∨ ((m'.toList == m.toList) = true ∧ (n'.toList == n.toList) = false) := by
                rw [hm, hn]
                cases e1 : m' == m
                · exact .inl rfl
                · rw [e1] at he; exact .inr ⟨rfl, he⟩
              clear hq hp hm hn he
              rcases hsplit with hs1 | ⟨hs1, hs2⟩
              all_goals
                go_wp2
                go_quiet (fail)
                go_wp2
                exact ⟨⟨j + 1, by omega, by go_num, HN2, below_drewN B3 _⟩, by simp [intOf]; omega⟩
            · have HV : Hid (chkImps [] is = 6) := by
                show chkImps [] is = 6
                have : (((is.take k).map fun x => (x.mod, x.name)).any fun x => x.1 == m && x.2 == n) = true := by
                  rw [List.any_map]
                  exact any_take_le is _ j k _ hq hjk he
                have e6 : IE = 6 := by rw [HIO2.out, if_neg ho, if_pos this]
                rw [HR.out, e6]; rfl
              have hs1 : (m'.toList == m.toList) = true := by rw [hm]; exact (Bool.and_eq_true _ _ ▸ he).1
              have hs2 : (n'.toList == n.toList) = true := by rw [hn]; exact (Bool.and_eq_true _ _ ▸ he).2
              clear hq hp hm hn he
              go_wp2
              go_quiet (fail)
              go_wp2
              go_ret
              exact ⟨by rw [← HRES.out, HV.out]; rfl, B1.trans ((below_drewN B3 _).mono B1.size)⟩
          · obtain rfl : j = k := by omega
            have hIE : IE = IW := by rw [HIO2.out, if_neg ho, if_neg (by rw [HN.out]; simp)]
            have HIE : Hid (IE = IW) := hIE
            clear hIE
            rcases how with h | h | h
            · exact absurd h ho
            · subst h
              have HV : Hid (chkImps [] is = 3) := by show chkImps [] is = 3; rw [HR.out, HIE.out]; rfl
              go_wp2
              go_ret
              exact ⟨by rw [← HRES.out, HV.out]; rfl, B1.trans (B3.mono B1.size)⟩
            · subst h
              have HV : Hid (chkImps [] is = chkImps ((is.take (j + 1)).map fun x => (x.mod, x.name)) (is.drop (j + 1))) := by show chkImps [] is = _; rw [HR.out, if_pos HIE.out]
              go_wp2
              exact ⟨⟨j + 1, by omega, by go_num, HV, B3⟩, by simp [intOf]; omega⟩
    · obtain rfl : k = is.length := by omega
      have HV : Hid (chkPats T.size is.length 0 ps = RES) := by
        show chkPats T.size is.length 0 ps = RES
        rw [← HRES.out, if_neg]
        rw [HC.out, List.drop_length]
        simp [chkImps]
      clear HC HRES hI
      go_wp2
      have k6 := (B.cell (p := ⟨w.heap.size, 6, none⟩) hz1).trans d6
      go_loopw [7, 8] (fun en i wr => ∃ (k : Nat) (E : Int), k ≤ ps.length ∧ i = .int .i64 k ∧ en = .int .i64 E ∧ 0 ≤ E ∧ E ≤ 140737488351232 ∧ Hid (RES = chkPats T.size is.length E (ps.drop k)) ∧ Below w1.heap.size w1 wr) (fun _ i _ => ps.length - (intOf i).toNat)
      case atStart => exact ⟨0, 0, Nat.zero_le _, rfl, rfl, by omega, by omega, by show RES = _; rw [← HV.out]; rfl, B⟩
      case round =>
        obtain ⟨k, E, hk, rfl, rfl, e0, e1, HC, B2⟩ := hrel
        have k6 := (B2.cell (p := ⟨w.heap.size, 6, none⟩) hz1).trans d6
        have k5 := (B2.cell (p := ⟨w.heap.size, 5, none⟩) hz1).trans d5
        have k3 := (B2.cell (p := ⟨w.heap.size, 3, none⟩) hz1).trans d3
        by_cases hlt : k < ps.length
        · obtain ⟨p, hp⟩ : ∃ p, ps[k]? = some p := ⟨_, List.getElem?_eq_getElem hlt⟩
          rcases hP with h | ⟨bb, off, rfl, hbn, hcells⟩
          · subst h; simp at hlt
          obtain ⟨K, A, S, D⟩ := p
          have c0 := (B2.cell (p := ⟨bb, off + k * 4 + 0, none⟩) hbn).trans (hcells k _ hp 0 (by omega))
          have c1 := (B2.cell (p := ⟨bb, off + k * 4 + 1, none⟩) hbn).trans (hcells k _ hp 1 (by omega))
          have c2 := (B2.cell (p := ⟨bb, off + k * 4 + 2, none⟩) hbn).trans (hcells k _ hp 2 (by omega))
          have c3 := (B2.cell (p := ⟨bb, off + k * 4 + 3, none⟩) hbn).trans (hcells k _ hp 3 (by omega))
          dsimp only [Pat.cell] at c0 c1 c2 c3
          rw [Nat.add_zero] at c0
          have HR : Hid (RES = if patErr T.size is.length E ⟨K, A, S, D⟩ = 0 then chkPats T.size is.length (A + width K) (ps.drop (k + 1)) else patErr T.size is.length E ⟨K, A, S, D⟩) := by
            show RES = _
            rw [HC.out, drop_at hp]; rfl
          have key := patErr_cases T.size is.length E K A S D
          have hwd := width_bd K
          have PW : Hid (∀ w, Calls Tryz.prog 112 #[.int .i64 K] w fun e w' => e = .returned (.int .i64 (width K)) ∧ w' = w) := fun w => widthOf_any K w
          clear HC hcells hp HV
          generalize patErr T.size is.length E ⟨K, A, S, D⟩ = R at key HR
          generalize width K = Wd at *
          have cases5 : (Wd = 0 ∧ R = 7) ∨ ((Wd == 0) = false ∧ (betw S (-1) ((is.length : Int) - 1) = false ∧ R = 3 ∨ betw S (-1) ((is.length : Int) - 1) = true ∧ (betw D 0 65535 = false ∧ R = 3 ∨ betw D 0 65535 = true ∧ (betw A 0 ((T.size : Int) - Wd) = false ∧ R = 3 ∨ betw A 0 ((T.size : Int) - Wd) = true ∧ 0 ≤ A ∧ A ≤ (T.size : Int) - Wd ∧ (A < E ∧ R = 4 ∨ E ≤ A ∧ R = 0))))) := by
            rcases key with ⟨h0, h⟩ | ⟨h0, ⟨h1, h⟩ | ⟨h1, h2, h⟩ | ⟨h1, h2, h3, h⟩ | ⟨h1, h2, h3, h4, h⟩ | ⟨h1, h2, h3, h4, ⟨h5, h⟩ | ⟨h5, h6, h⟩ | ⟨h5, h6, h7, h⟩ | ⟨h5, h6, h7, h⟩⟩⟩
            · exact .inl ⟨h0, h⟩
            all_goals refine .inr ⟨beq_eq_false_iff_ne.2 h0, ?_⟩
            · exact .inl ⟨betw_false (.inl h1), h⟩
            · exact .inl ⟨betw_false (.inr (by omega)), h⟩
            all_goals refine .inr ⟨betw_true (by omega) (by omega), ?_⟩
            · exact .inl ⟨betw_false (.inl h3), h⟩
            · exact .inl ⟨betw_false (.inr h4), h⟩
            all_goals refine .inr ⟨betw_true (by omega) (by omega), ?_⟩
            · exact .inl ⟨betw_false (.inl h5), h⟩
            · exact .inl ⟨betw_false (.inr h6), h⟩
            · exact .inr ⟨betw_true h5 h6, h5, h6, .inl ⟨h7, h⟩⟩
            · exact .inr ⟨betw_true h5 h6, h5, h6, .inr ⟨h7, h⟩⟩
          clear key
          obtain ⟨hw0, hw4⟩ := hwd
          have ka5 : ∀ o, (wr.alloc o).cell? ⟨w.heap.size, 5, none⟩ = some (.slice pi is.length ki) := fun o => cell_kept k5 (World.grownBy_alloc wr o none) (fun r e => by cases e)
          have ka3 : ∀ o, (wr.alloc o).cell? ⟨w.heap.size, 3, none⟩ = some (.string T) := fun o => cell_kept k3 (World.grownBy_alloc wr o none) (fun r e => by cases e)
          rcases cases5 with ⟨rfl, rfl⟩ | ⟨h0, ⟨q1, rfl⟩ | ⟨q1, ⟨q2, rfl⟩ | ⟨q2, ⟨q3, rfl⟩ | ⟨q3, a0, a1, ⟨q4, rfl⟩ | ⟨q4, rfl⟩⟩⟩⟩⟩
          all_goals
            go_wp2_with (first
              | (go_at_call 112; refine (PW.out _).mono ?_; rintro e w' ⟨rfl, rfl⟩)
              | (go_at_call 109; refine (between_any _ _ _ _).mono ?_; rintro e w' ⟨rfl, rfl⟩))
          case roundEnd =>
            exact ⟨⟨k + 1, A + Wd, by omega, by go_num, rfl, by omega, by omega, HR.out, B2.alloc B2.size _⟩, by simp [intOf]; omega⟩
          all_goals
            go_ret
            exact ⟨by rw [HR.out]; rfl, B1.trans ((B2.alloc B2.size _).mono B1.size)⟩
        · obtain rfl : k = ps.length := by omega
          have HZ : Hid (RES = 0) := by
            show RES = 0
            rw [HC.out, List.drop_length]; rfl
          go_wp2
          go_ret
          exact ⟨by rw [HZ.out]; rfl, B1.trans (B2.mono B1.size)⟩

end Go.Proofs.YtlpnfbpgnfappaaGreat

/- The contract of the document's CheckModule. -/
namespace Go.Proofs.YtlpnfbpgnfappaaGreat
open Go.RowKit Go.PlainAid

set_option maxRecDepth 100000 in
set_option maxHeartbeats 2000000 in
theorem checkModule_any (M : Mod) (v : Value) (w : World) (hM : IsMod w.heap.size w v M) (hf : M.fits) :
    Calls Tryz.prog 49 #[v] w fun e w' => e = .returned (.int .i64 (chkMod M)) ∧ Below w.heap.size w w' := by
  have key := chkMod_cases M
  rw [← kern_form] at key
  obtain ⟨ve, vi, vp, rfl, hE, hI, hP⟩ := hM
  have hE' := hE
  have hI' := hI
  have hP' := hP
  obtain ⟨pe, ke, rfl, _, _⟩ := hE'
  obtain ⟨pi, ki, rfl, _, _⟩ := hI'
  obtain ⟨pp, kp, rfl, _, _⟩ := hP'
  obtain ⟨z1, z2, z3, z4⟩ := hf
  by_cases hgood : isNm M.name = true ∧ (M.name.toList == [107, 101, 114, 110, 101, 108]) = false ∧ isVer M.major M.minor = true ∧ M.text.size ≤ 256 ∧ M.exps.length ≤ 6 ∧ M.imps.length ≤ 6 ∧ M.pats.length ≤ 12 ∧ M.text.size ≠ 0 ∧ M.text.size % 4 = 0 ∧ chkExps M.text.size [] M.exps = 0
  · obtain ⟨h1, h2, h3, t1, t2, t3, t4, h5, h6, h7⟩ := hgood
    have hv : betw M.major 0 255 = true ∧ betw M.minor 0 255 = true := by simpa [isVer] using h3
    have := checkModule_good M pe pi pp ke ki kp w hE hI hP ⟨z1, z2, z3, z4⟩ h1 h2 hv.1 hv.2 t1 t2 t3 t4 (beq_eq_false_iff_ne.2 (by omega)) (decide_eq_false (by omega)) h7
    have e : chkMod M = if chkImps [] M.imps ≠ 0 then chkImps [] M.imps else chkPats M.text.size M.imps.length 0 M.pats := by
      unfold chkMod
      rw [kern_form] at h2
      rw [if_neg (by simp [h1, h2]), if_neg (by simp [h3]), if_neg (by omega), if_neg (by omega), if_neg (by simp [h7])]
    rwa [e]
  · have HE : Hid (∀ w', Below w.heap.size w w' → M.exps.length ≤ 6 → M.text.size ≤ 256 → Calls Tryz.prog 110 #[.slice pe M.exps.length ke, .int .i64 M.text.size] w' fun e w'' => e = .returned (.int .i64 (chkExps M.text.size [] M.exps)) ∧ Below w'.heap.size w' w'') :=
      fun w' hb hl ht => checkExports_any M.exps _ M.text.size w' ((hE.below hb).more hb.size) z3 (by omega) (by omega) (by omega)
    have fin : (isNm M.name = false ∧ chkMod M = 1) ∨ (isNm M.name = true ∧ (M.name.toList == [107, 101, 114, 110, 101, 108]) = true ∧ chkMod M = 1) ∨ (isNm M.name = true ∧ (M.name.toList == [107, 101, 114, 110, 101, 108]) = false ∧ (betw M.major 0 255 = false ∧ chkMod M = 3 ∨ betw M.major 0 255 = true ∧ (betw M.minor 0 255 = false ∧ chkMod M = 3 ∨ betw M.minor 0 255 = true ∧
        (256 < M.text.size ∧ chkMod M = 2 ∨ M.text.size ≤ 256 ∧ (6 < M.exps.length ∧ chkMod M = 2 ∨ M.exps.length ≤ 6 ∧ (6 < M.imps.length ∧ chkMod M = 2 ∨ M.imps.length ≤ 6 ∧ (12 < M.pats.length ∧ chkMod M = 2 ∨ M.pats.length ≤ 12 ∧
          (M.text.size = 0 ∧ chkMod M = 1 ∨ M.text.size ≠ 0 ∧ (M.text.size % 4 ≠ 0 ∧ chkMod M = 1 ∨ M.text.size % 4 = 0 ∧ (chkExps M.text.size [] M.exps ≠ 0 ∧ chkMod M = chkExps M.text.size [] M.exps)))))))))) := by
      rcases key with ⟨h1, h⟩ | ⟨h1, ⟨h2, h⟩ | ⟨h2, key⟩⟩
      · exact .inl ⟨h1, h⟩
      · exact .inr (.inl ⟨h1, h2, h⟩)
      refine .inr (.inr ⟨h1, h2, ?_⟩)
      rcases key with ⟨h3, h⟩ | ⟨h3, key⟩
      · cases ha : betw M.major 0 255
        · exact .inl ⟨rfl, h⟩
        · cases hb : betw M.minor 0 255
          · exact .inr ⟨rfl, .inl ⟨rfl, h⟩⟩
          · rw [isVer, ha, hb] at h3; cases h3
      have hv : betw M.major 0 255 = true ∧ betw M.minor 0 255 = true := by simpa [isVer] using h3
      refine .inr ⟨hv.1, .inr ⟨hv.2, ?_⟩⟩
      rcases key with ⟨h4, h⟩ | ⟨h4, t1, t2, t3, t4, key⟩
      · by_cases a1 : 256 < M.text.size
        · exact .inl ⟨a1, h⟩
        by_cases a2 : 6 < M.exps.length
        · exact .inr ⟨by omega, .inl ⟨a2, h⟩⟩
        by_cases a3 : 6 < M.imps.length
        · exact .inr ⟨by omega, .inr ⟨by omega, .inl ⟨a3, h⟩⟩⟩
        by_cases a4 : 12 < M.pats.length
        · exact .inr ⟨by omega, .inr ⟨by omega, .inr ⟨by omega, .inl ⟨a4, h⟩⟩⟩⟩
        · exfalso
          unfold tooManyB at h4
          rw [decide_eq_false (show ¬ 256 < (M.text.size : Int) by omega), decide_eq_false (show ¬ 6 < (M.exps.length : Int) by omega), decide_eq_false (show ¬ 6 < (M.imps.length : Int) by omega), decide_eq_false (show ¬ 12 < (M.pats.length : Int) by omega)] at h4
          cases h4
      refine .inr ⟨t1, .inr ⟨t2, .inr ⟨t3, .inr ⟨t4, ?_⟩⟩⟩⟩
      rcases key with ⟨h5, h⟩ | ⟨h5, ⟨h6, h⟩ | ⟨h6, ⟨h7, h⟩ | ⟨h7, _⟩⟩⟩
      · exact .inl ⟨h5, h⟩
      · exact .inr ⟨by omega, .inl ⟨h6, h⟩⟩
      · exact .inr ⟨by omega, .inr ⟨h6, h7, h⟩⟩
      · exact absurd ⟨h1, h2, h3, t1, t2, t3, t4, by omega, h6, h7⟩ hgood
    clear key hgood hE hI hP z3 z4
    generalize chkExps M.text.size [] M.exps = ce at *
    generalize chkMod M = R at *
    obtain ⟨N, a, b, T, es, is, ps⟩ := M
    dsimp only at *
    rename_i q1 q2 q3
    clear q1 q2 q3
    have HW1 : Hid (Below w.heap.size w (w.alloc (.cells #[.string N, .int .i64 a, .int .i64 b, .string T, .slice pe es.length ke, .slice pi is.length ki, .slice pp ps.length kp] 31))) := (Below.refl _ _).alloc (Nat.le_refl _) _
    rcases fin with ⟨h1, rfl⟩ | ⟨h1, h2, rfl⟩ | ⟨h1, h2, ⟨h3, rfl⟩ | ⟨h3, ⟨h4, rfl⟩ | ⟨h4, ⟨k1, rfl⟩ | ⟨k1, ⟨k2, rfl⟩ | ⟨k2, ⟨k3, rfl⟩ | ⟨k3, ⟨k4, rfl⟩ | ⟨k4, ⟨h5, rfl⟩ | ⟨h5, ⟨h6, rfl⟩ | ⟨h6, h7, rfl⟩⟩⟩⟩⟩⟩⟩⟩⟩
    · go_enter Tryz.func49, Tryz.ntmps49
      go_wp2_with (first
        | (go_at_call 108; refine (isNameR_any _ _ (by assumption)).mono ?_; rintro e w' ⟨rfl, rfl⟩)
        | (go_at_call 109; refine (between_any _ _ _ _).mono ?_; rintro e w' ⟨rfl, rfl⟩))
      go_ret
      exact ⟨rfl, HW1.out⟩
    · go_enter Tryz.func49, Tryz.ntmps49
      go_wp2_with (first
        | (go_at_call 108; refine (isNameR_any _ _ (by assumption)).mono ?_; rintro e w' ⟨rfl, rfl⟩)
        | (go_at_call 109; refine (between_any _ _ _ _).mono ?_; rintro e w' ⟨rfl, rfl⟩))
      go_ret
      exact ⟨rfl, HW1.out⟩
    · go_enter Tryz.func49, Tryz.ntmps49
      go_wp2_with (first
        | (go_at_call 108; refine (isNameR_any _ _ (by assumption)).mono ?_; rintro e w' ⟨rfl, rfl⟩)
        | (go_at_call 109; refine (between_any _ _ _ _).mono ?_; rintro e w' ⟨rfl, rfl⟩))
      go_ret
      exact ⟨rfl, HW1.out⟩
    · go_enter Tryz.func49, Tryz.ntmps49
      go_wp2_with (first
        | (go_at_call 108; refine (isNameR_any _ _ (by assumption)).mono ?_; rintro e w' ⟨rfl, rfl⟩)
        | (go_at_call 109; refine (between_any _ _ _ _).mono ?_; rintro e w' ⟨rfl, rfl⟩))
      go_ret
      exact ⟨rfl, HW1.out⟩
    · have gt : (256 : Int) < T.size := by omega
      go_enter Tryz.func49, Tryz.ntmps49
      go_wp2_with (first
        | (go_at_call 108; refine (isNameR_any _ _ (by assumption)).mono ?_; rintro e w' ⟨rfl, rfl⟩)
        | (go_at_call 109; refine (between_any _ _ _ _).mono ?_; rintro e w' ⟨rfl, rfl⟩))
      go_ret
      exact ⟨rfl, HW1.out⟩
    · have g1 : decide (256 < (T.size : Int)) = false := decide_eq_false (by omega)
      have g1' : decide (256 < T.size) = false := decide_eq_false (by omega)
      have gt : (6 : Int) < es.length := by omega
      go_enter Tryz.func49, Tryz.ntmps49
      go_wp2_with (first
        | (go_at_call 108; refine (isNameR_any _ _ (by assumption)).mono ?_; rintro e w' ⟨rfl, rfl⟩)
        | (go_at_call 109; refine (between_any _ _ _ _).mono ?_; rintro e w' ⟨rfl, rfl⟩))
      go_ret
      exact ⟨rfl, HW1.out⟩
    · have g1 : decide (256 < (T.size : Int)) = false := decide_eq_false (by omega)
      have g1' : decide (256 < T.size) = false := decide_eq_false (by omega)
      have g2 : decide (6 < (es.length : Int)) = false := decide_eq_false (by omega)
      have g2' : decide (6 < es.length) = false := decide_eq_false (by omega)
      have gt : (6 : Int) < is.length := by omega
      go_enter Tryz.func49, Tryz.ntmps49
      go_wp2_with (first
        | (go_at_call 108; refine (isNameR_any _ _ (by assumption)).mono ?_; rintro e w' ⟨rfl, rfl⟩)
        | (go_at_call 109; refine (between_any _ _ _ _).mono ?_; rintro e w' ⟨rfl, rfl⟩))
      go_ret
      exact ⟨rfl, HW1.out⟩
    · have g1 : decide (256 < (T.size : Int)) = false := decide_eq_false (by omega)
      have g1' : decide (256 < T.size) = false := decide_eq_false (by omega)
      have g2 : decide (6 < (es.length : Int)) = false := decide_eq_false (by omega)
      have g2' : decide (6 < es.length) = false := decide_eq_false (by omega)
      have g3 : decide (6 < (is.length : Int)) = false := decide_eq_false (by omega)
      have g3' : decide (6 < is.length) = false := decide_eq_false (by omega)
      have gt : (12 : Int) < ps.length := by omega
      go_enter Tryz.func49, Tryz.ntmps49
      go_wp2_with (first
        | (go_at_call 108; refine (isNameR_any _ _ (by assumption)).mono ?_; rintro e w' ⟨rfl, rfl⟩)
        | (go_at_call 109; refine (between_any _ _ _ _).mono ?_; rintro e w' ⟨rfl, rfl⟩))
      go_ret
      exact ⟨rfl, HW1.out⟩
    · have g1 : decide (256 < (T.size : Int)) = false := decide_eq_false (by omega)
      have g1' : decide (256 < T.size) = false := decide_eq_false (by omega)
      have g2 : decide (6 < (es.length : Int)) = false := decide_eq_false (by omega)
      have g2' : decide (6 < es.length) = false := decide_eq_false (by omega)
      have g3 : decide (6 < (is.length : Int)) = false := decide_eq_false (by omega)
      have g3' : decide (6 < is.length) = false := decide_eq_false (by omega)
      have g4 : decide (12 < (ps.length : Int)) = false := decide_eq_false (by omega)
      have g4' : decide (12 < ps.length) = false := decide_eq_false (by omega)
      have h5' : ((T.size : Int) == 0) = true := by rw [beq_iff_eq]; omega
      clear h5
      go_enter Tryz.func49, Tryz.ntmps49
      go_wp2_with (first
        | (go_at_call 108; refine (isNameR_any _ _ (by assumption)).mono ?_; rintro e w' ⟨rfl, rfl⟩)
        | (go_at_call 109; refine (between_any _ _ _ _).mono ?_; rintro e w' ⟨rfl, rfl⟩))
      go_ret
      exact ⟨rfl, HW1.out⟩
    · have g1 : decide (256 < (T.size : Int)) = false := decide_eq_false (by omega)
      have g1' : decide (256 < T.size) = false := decide_eq_false (by omega)
      have g2 : decide (6 < (es.length : Int)) = false := decide_eq_false (by omega)
      have g2' : decide (6 < es.length) = false := decide_eq_false (by omega)
      have g3 : decide (6 < (is.length : Int)) = false := decide_eq_false (by omega)
      have g3' : decide (6 < is.length) = false := decide_eq_false (by omega)
      have g4 : decide (12 < (ps.length : Int)) = false := decide_eq_false (by omega)
      have g4' : decide (12 < ps.length) = false := decide_eq_false (by omega)
      have h5' : ((T.size : Int) == 0) = false := beq_eq_false_iff_ne.2 (by omega)
      have h6' : 0 < (T.size : Int) % 4 := by omega
      clear h5 h6
      go_enter Tryz.func49, Tryz.ntmps49
      go_wp2_with (first
        | (go_at_call 108; refine (isNameR_any _ _ (by assumption)).mono ?_; rintro e w' ⟨rfl, rfl⟩)
        | (go_at_call 109; refine (between_any _ _ _ _).mono ?_; rintro e w' ⟨rfl, rfl⟩))
      go_ret
      exact ⟨rfl, HW1.out⟩
    · have g1 : decide (256 < (T.size : Int)) = false := decide_eq_false (by omega)
      have g1' : decide (256 < T.size) = false := decide_eq_false (by omega)
      have g2 : decide (6 < (es.length : Int)) = false := decide_eq_false (by omega)
      have g2' : decide (6 < es.length) = false := decide_eq_false (by omega)
      have g3 : decide (6 < (is.length : Int)) = false := decide_eq_false (by omega)
      have g3' : decide (6 < is.length) = false := decide_eq_false (by omega)
      have g4 : decide (12 < (ps.length : Int)) = false := decide_eq_false (by omega)
      have g4' : decide (12 < ps.length) = false := decide_eq_false (by omega)
      have h5' : ((T.size : Int) == 0) = false := beq_eq_false_iff_ne.2 (by omega)
      have h6' : decide (0 < (T.size : Int) % 4) = false := decide_eq_false (by omega)
      have h7' : (R != 0) = true := by simpa using h7
      clear h5 h6 h7
      go_enter Tryz.func49, Tryz.ntmps49
      go_wp2_with (first
        | (go_at_call 108; refine (isNameR_any _ _ (by assumption)).mono ?_; rintro e w' ⟨rfl, rfl⟩)
        | (go_at_call 109; refine (between_any _ _ _ _).mono ?_; rintro e w' ⟨rfl, rfl⟩))
      refine (HE.out _ HW1.out k2 k1).mono ?_
      rintro e w1 ⟨rfl, b1⟩
      go_wp2
      go_ret
      exact ⟨rfl, HW1.out.trans (b1.mono HW1.out.size)⟩

end Go.Proofs.YtlpnfbpgnfappaaGreat

/- Kernels, modules that are placed, and who is meant, as data. -/
namespace Go.Proofs.YtlpnfbpgnfappaaGreat
open Go.RowKit Go.PlainAid

structure Ker where
  major : Int
  minor : Int
  exps : List Exp
structure Plc where
  mod : Mod
  first : Int

/-- What is wrong with a kernel. -/
def chkKer (k : Ker) : Int := if isVer k.major k.minor = false then 3 else if 8 < k.exps.length then 2 else chkExps 4096 [] k.exps
/-- What is wrong with modules that are placed. -/
def chkPls : List Plc → Int
  | [] => 0
  | p :: l => if chkMod p.mod ≠ 0 then chkMod p.mod else if betw p.first 0 15 = false then 3 else chkPls l
def chkPlaced (l : List Plc) : Int := if 8 < l.length then 2 else chkPls l
def chkFind (k : Ker) (l : List Plc) : Int := if chkKer k ≠ 0 then chkKer k else chkPlaced l

/-- What an import may mean: its version, where it begins, its exports. -/
structure Tgt where
  major : Int
  minor : Int
  beg : Int
  exps : List Exp
def tgtOf (k : Ker) (l : List Plc) (name : ByteArray) : Option Tgt :=
  if (name == kernelName) = true then some ⟨k.major, k.minor, 0, k.exps⟩
  else (l.find? fun p => p.mod.name == name).map fun p => ⟨p.mod.major, p.mod.minor, 4096 + p.first * 64, p.mod.exps⟩
def expOf (l : List Exp) (name : ByteArray) : Option Exp := l.find? fun x => x.name == name
/-- Where the import is, and why not. -/
def addrOf (k : Ker) (l : List Plc) (i : Imp) : Int × Int :=
  match tgtOf k l i.mod with
  | none => (0, 5)
  | some t => if t.major ≠ i.major ∨ t.minor < i.minor then (0, 4) else match expOf t.exps i.name with
    | none => (0, 5)
    | some x => (t.beg + x.pos, 0)

theorem expErr_zero {most : Int} {met : List ByteArray} {e : Exp} (h : expErr most met e = 0) : isNm e.name = true ∧ 0 ≤ e.pos ∧ e.pos < most := by
  obtain ⟨n, p⟩ := e
  rcases expErr_cases most met n p with ⟨_, h1⟩ | ⟨_, _, h1⟩ | ⟨_, _, _, h1⟩ | ⟨_, _, _, _, h1⟩ | ⟨h0, _, h1, h2, _⟩
  all_goals first | (rw [h] at h1; exact absurd h1 (by decide)) | exact ⟨h0, h1, h2⟩
theorem chkExps_pos {most : Int} : ∀ {l : List Exp} {met : List ByteArray}, chkExps most met l = 0 → ∀ e ∈ l, isNm e.name = true ∧ 0 ≤ e.pos ∧ e.pos < most
  | [], _, _, e, he => by simp at he
  | x :: l, met, h, e, he => by
    unfold chkExps at h
    by_cases h0 : expErr most met x = 0
    · rw [if_pos h0] at h
      rcases List.mem_cons.1 he with rfl | he
      · exact expErr_zero h0
      · exact chkExps_pos h e he
    · rw [if_neg h0] at h
      exact absurd h h0
theorem chkMod_exps {M : Mod} (h : chkMod M = 0) : (∀ e ∈ M.exps, isNm e.name = true ∧ 0 ≤ e.pos ∧ e.pos < M.text.size) ∧ M.text.size ≤ 256 ∧ M.exps.length ≤ 6 ∧ M.imps.length ≤ 6 ∧ M.pats.length ≤ 12 ∧ isNm M.name = true ∧ (M.name == kernelName) = false := by
  rcases chkMod_cases M with ⟨_, e⟩ | ⟨g1, ⟨_, e⟩ | ⟨g2, ⟨_, e⟩ | ⟨_, ⟨_, e⟩ | ⟨_, t1, t2, t3, t4, ⟨_, e⟩ | ⟨_, ⟨_, e⟩ | ⟨_, ⟨n, e⟩ | ⟨h7, _⟩⟩⟩⟩⟩⟩⟩
  · omega
  · omega
  · omega
  · omega
  · omega
  · omega
  · exact absurd (e ▸ h) n
  · exact ⟨chkExps_pos h7, t1, t2, t3, t4, g1, g2⟩
theorem chkKer_zero {k : Ker} (h : chkKer k = 0) : k.exps.length ≤ 8 ∧ ∀ e ∈ k.exps, isNm e.name = true ∧ 0 ≤ e.pos ∧ e.pos < 4096 := by
  unfold chkKer at h
  split at h
  · omega
  · split at h
    · omega
    · exact ⟨by omega, chkExps_pos h⟩
theorem chkPls_zero : ∀ {l : List Plc}, chkPls l = 0 → ∀ p ∈ l, chkMod p.mod = 0 ∧ 0 ≤ p.first ∧ p.first ≤ 15
  | [], _, p, hp => by simp at hp
  | x :: l, h, p, hp => by
    unfold chkPls at h
    by_cases h0 : chkMod x.mod = 0
    · rw [if_neg (by omega)] at h
      cases hb : betw x.first 0 15
      · rw [hb, if_pos rfl] at h; omega
      · rw [hb, if_neg (by decide)] at h
        rcases List.mem_cons.1 hp with rfl | hp
        · have := betw_iff.1 hb
          exact ⟨h0, this.1, this.2⟩
        · exact chkPls_zero h p hp
    · rw [if_pos h0] at h
      exact absurd h h0
theorem chkFind_zero {k : Ker} {l : List Plc} (h : chkFind k l = 0) : chkKer k = 0 ∧ l.length ≤ 8 ∧ ∀ p ∈ l, chkMod p.mod = 0 ∧ 0 ≤ p.first ∧ p.first ≤ 15 := by
  unfold chkFind at h
  by_cases h0 : chkKer k = 0
  · rw [if_neg (by omega)] at h
    unfold chkPlaced at h
    split at h
    · omega
    · exact ⟨h0, by omega, chkPls_zero h⟩
  · rw [if_pos h0] at h
    exact absurd h h0

/-- A target's exports lie just behind its beginning. -/
theorem tgt_bd {k : Ker} {l : List Plc} {name : ByteArray} {t : Tgt} (h : chkFind k l = 0) (ht : tgtOf k l name = some t) : 0 ≤ t.beg ∧ t.beg ≤ 5056 ∧ t.exps.length ≤ 8 ∧ ∀ e ∈ t.exps, isNm e.name = true ∧ 0 ≤ e.pos ∧ e.pos < 4096 := by
  obtain ⟨hk, hl, hp⟩ := chkFind_zero h
  unfold tgtOf at ht
  split at ht
  · injection ht with ht
    subst ht
    have := chkKer_zero hk
    exact ⟨Int.le_refl 0, show (0 : Int) ≤ 5056 by decide, this.1, this.2⟩
  · cases hf : l.find? fun p => p.mod.name == name with
    | none => rw [hf] at ht; simp at ht
    | some p =>
      rw [hf] at ht
      simp at ht
      subst ht
      obtain ⟨h1, h2, h3⟩ := hp p (List.mem_of_find?_eq_some hf)
      obtain ⟨h4, h5, h6, _⟩ := chkMod_exps h1
      exact ⟨by dsimp only; omega, by dsimp only; omega, by dsimp only; omega, fun e he => by obtain ⟨g1, g2, g3⟩ := h4 e he; exact ⟨g1, g2, by omega⟩⟩

/-- Kernels and rows of placed modules in memory. -/
structure PV where
  mod : Mod
  ve : Value
  vi : Value
  vp : Value
  first : Int
def PV.plc (x : PV) : Plc := ⟨x.mod, x.first⟩
def PV.cell (x : PV) : Nat → Value
  | 0 => .string x.mod.name
  | 1 => .int .i64 x.mod.major
  | 2 => .int .i64 x.mod.minor
  | 3 => .string x.mod.text
  | 4 => x.ve
  | 5 => x.vi
  | 6 => x.vp
  | _ => .int .i64 x.first
def PV.modV (x : PV) : Value := .agg #[.string x.mod.name, .int .i64 x.mod.major, .int .i64 x.mod.minor, .string x.mod.text, x.ve, x.vi, x.vp]
def PV.val (x : PV) : Value := .agg #[.string x.mod.name, .int .i64 x.mod.major, .int .i64 x.mod.minor, .string x.mod.text, x.ve, x.vi, x.vp, .int .i64 x.first]
def PlcAt (n₀ : Nat) (W : World) (x : PV) : Prop := RowOf 2 Exp.cell n₀ W x.ve x.mod.exps ∧ RowOf 4 Imp.cell n₀ W x.vi x.mod.imps ∧ RowOf 4 Pat.cell n₀ W x.vp x.mod.pats
def IsPlcs (n₀ : Nat) (W : World) (v : Value) (l : List PV) : Prop := RowOf 8 PV.cell n₀ W v l ∧ ∀ x ∈ l, PlcAt n₀ W x
def IsKer (n₀ : Nat) (W : World) (v : Value) (k : Ker) : Prop := ∃ ve, v = .agg #[.int .i64 k.major, .int .i64 k.minor, ve] ∧ RowOf 2 Exp.cell n₀ W ve k.exps
def Ker.fits (k : Ker) : Prop := ∀ e ∈ k.exps, e.name.size ≤ 9223372036854775807

theorem PlcAt.below {n₀ : Nat} {W W' : World} {x : PV} (h : PlcAt n₀ W x) (hb : Below n₀ W W') : PlcAt n₀ W' x := ⟨h.1.below hb, h.2.1.below hb, h.2.2.below hb⟩
theorem PlcAt.more {n₀ n₁ : Nat} {W : World} {x : PV} (h : PlcAt n₀ W x) (hn : n₀ ≤ n₁) : PlcAt n₁ W x := ⟨h.1.more hn, h.2.1.more hn, h.2.2.more hn⟩
theorem PlcAt.isMod {n₀ : Nat} {W : World} {x : PV} (h : PlcAt n₀ W x) : IsMod n₀ W x.modV x.mod := ⟨x.ve, x.vi, x.vp, rfl, h.1, h.2.1, h.2.2⟩
theorem IsPlcs.below {n₀ : Nat} {W W' : World} {v : Value} {l : List PV} (h : IsPlcs n₀ W v l) (hb : Below n₀ W W') : IsPlcs n₀ W' v l := ⟨h.1.below hb, fun x hx => (h.2 x hx).below hb⟩
theorem IsPlcs.more {n₀ n₁ : Nat} {W : World} {v : Value} {l : List PV} (h : IsPlcs n₀ W v l) (hn : n₀ ≤ n₁) : IsPlcs n₁ W v l := ⟨h.1.more hn, fun x hx => (h.2 x hx).more hn⟩
theorem IsKer.below {n₀ : Nat} {W W' : World} {v : Value} {k : Ker} (h : IsKer n₀ W v k) (hb : Below n₀ W W') : IsKer n₀ W' v k := by
  obtain ⟨ve, e, h⟩ := h
  exact ⟨ve, e, h.below hb⟩
theorem IsKer.more {n₀ n₁ : Nat} {W : World} {v : Value} {k : Ker} (h : IsKer n₀ W v k) (hn : n₀ ≤ n₁) : IsKer n₁ W v k := by
  obtain ⟨ve, e, h⟩ := h
  exact ⟨ve, e, h.more hn⟩

end Go.Proofs.YtlpnfbpgnfappaaGreat

/- Memory that is cells. -/
namespace Go.Proofs.YtlpnfbpgnfappaaGreat
open Go.RowKit Go.PlainAid Go.Lib

/-- Block B holds just these. -/
def CellsAt (W : World) (B : Nat) (t : TypeId) (cs : Array Value) : Prop := W.heap[B]? = some (.cells cs t (0, 0))
theorem CellsAt.lt {W : World} {B : Nat} {t : TypeId} {cs : Array Value} (h : CellsAt W B t cs) : B < W.heap.size := (Array.getElem?_eq_some_iff.1 h).1
theorem CellsAt.cell {W : World} {B : Nat} {t : TypeId} {cs : Array Value} (h : CellsAt W B t cs) (i : Nat) : W.cell? ⟨B, i, none⟩ = cs[i]? := by
  simp [World.cell?, show W.heap[B]? = _ from h]
theorem CellsAt.frozen {W : World} {B : Nat} {t : TypeId} {cs : Array Value} (h : CellsAt W B t cs) (i : Nat) : W.frozen? ⟨B, i, none⟩ = false := by
  simp [World.frozen?, show W.heap[B]? = _ from h]
theorem CellsAt.new (W : World) (t : TypeId) (cs : Array Value) : CellsAt (W.alloc (.cells cs t)) W.heap.size t cs := World.alloc_heap_new W _
theorem CellsAt.kept {W W' : World} {row : Option Nat} {B : Nat} {t : TypeId} {cs : Array Value} (h : CellsAt W B t cs) (hg : W.grownBy W' row) (hne : some B ≠ row) : CellsAt W' B t cs := (hg.block B h.lt hne).trans h
theorem CellsAt.below {W W' : World} {B n : Nat} {t : TypeId} {cs : Array Value} (h : CellsAt W B t cs) (hb : Below n W W') (hn : B < n) : CellsAt W' B t cs := (hb.block B hn).trans h
theorem CellsAt.set {W : World} {B : Nat} {t : TypeId} {cs : Array Value} (i : Nat) (v : Value) (h : CellsAt W B t cs) : CellsAt (W.setCell ⟨B, i, none⟩ v) B t (cs.setIfInBounds i v) := by
  obtain ⟨hlt, hk⟩ := Array.getElem?_eq_some_iff.1 h
  show (W.heap.modify B _)[B]? = _
  rw [Array.getElem?_eq_getElem (by rw [Array.size_modify]; exact hlt), Array.getElem_modify_self, hk]
  rfl
theorem grown_set (W : World) (b i : Nat) (v : Value) : W.grownBy (W.setCell ⟨b, i, none⟩ v) (some b) :=
  ⟨rfl, rfl, rfl, by simp [World.setCell], fun k _ hne => Below.heap_setCell W ⟨b, i, none⟩ v k (fun e => hne (by rw [e]))⟩

theorem results_cell_tmp_row {P : Program} {fn : Func} {p u : Tmp} {ty : TypeId} (h : fn.results = #[.cell p ty, .tmp u]) (tmps : Array Value) (w : World) (g : Nat) (t : TypeId) (cs : Array Value) (fr : Nat × Nat) (d : TypeDesc)
    (hp : tmps.getD p undef = .pointer (some ⟨g, 0, none⟩)) (hg : w.heap[g]? = some (.cells cs t fr))
    (hu : P.underlying ty = some d) (hd : (match d with | .struct _ | .array _ _ => true | _ => false) = true) (hi : (P.info? ty).map (·.size) = some cs.size) :
    (results fn tmps).run P w = .ok (.tuple #[.agg cs, tmps.getD u undef]) w := by
  rw [results_cell_tmp h, hp]
  simp [asAddr, run_loadVar_row w g t ty cs fr d hg hu hd hi]

def expC (e : Exp) : List Value := [.string e.name, .int .i64 e.pos]
def impC (i : Imp) : List Value := [.string i.mod, .string i.name, .int .i64 i.major, .int .i64 i.minor]
def patC (p : Pat) : List Value := [.int .i64 p.kind, .int .i64 p.pos, .int .i64 p.sym, .int .i64 p.add]

theorem flat_at {α : Type} {C : α → List Value} {sz : Nat} (hC : ∀ x, (C x).length = sz) : ∀ (l : List α) (j : Nat) (x : α) (i : Nat), l[j]? = some x → i < sz → (l.flatMap C)[j * sz + i]? = (C x)[i]?
  | [], j, x, i, h, _ => by simp at h
  | y :: l, 0, x, i, h, hi => by
    obtain rfl : y = x := by simpa using h
    rw [List.flatMap_cons, Nat.zero_mul, Nat.zero_add, List.getElem?_append_left (by rw [hC]; exact hi)]
  | y :: l, j + 1, x, i, h, hi => by
    rw [List.flatMap_cons, List.getElem?_append_right (by rw [hC, Nat.succ_mul]; omega), hC]
    have := flat_at hC l j x i (by simpa using h) hi
    rwa [show (j + 1) * sz + i - sz = j * sz + i by rw [Nat.succ_mul]; omega]

theorem rowOf_cells {α : Type} {C : α → List Value} {cells : α → Nat → Value} {sz : Nat} (hC : ∀ x, (C x).length = sz) (hc : ∀ x i, i < sz → (C x)[i]? = some (cells x i)) {W : World} {B : Nat} {t : TypeId} {cs : Array Value} (h : CellsAt W B t cs)
    (l : List α) (hl : l.length ≤ 255) (cap : Nat) (hcs : cs.toList = l.flatMap C) : RowOf sz cells W.heap.size W (.slice (some ⟨B, 0, none⟩) l.length cap) l := by
  refine ⟨_, cap, rfl, by omega, .inr ⟨B, 0, rfl, h.lt, fun j x hj i hi => ?_⟩⟩
  rw [Nat.zero_add, h.cell]
  have h1 := flat_at hC l j x i hj hi
  rw [hc x i hi, ← hcs] at h1
  simpa using h1
theorem expC_at (x : Exp) (i : Nat) (hi : i < 2) : (expC x)[i]? = some (Exp.cell x i) := by
  have : i = 0 ∨ i = 1 := by omega
  rcases this with rfl | rfl <;> rfl
theorem impC_at (x : Imp) (i : Nat) (hi : i < 4) : (impC x)[i]? = some (Imp.cell x i) := by
  have : i = 0 ∨ i = 1 ∨ i = 2 ∨ i = 3 := by omega
  rcases this with rfl | rfl | rfl | rfl <;> rfl
theorem patC_at (x : Pat) (i : Nat) (hi : i < 4) : (patC x)[i]? = some (Pat.cell x i) := by
  have : i = 0 ∨ i = 1 ∨ i = 2 ∨ i = 3 := by omega
  rcases this with rfl | rfl | rfl | rfl <;> rfl

end Go.Proofs.YtlpnfbpgnfappaaGreat

/- Rows that a call made, and that are appended to. -/
namespace Go.Proofs.YtlpnfbpgnfappaaGreat
open Go.RowKit Go.PlainAid

set_option maxRecDepth 100000

def intCell (x : Int) (_ : Nat) : Value := .int .i64 x
def intC (x : Int) : List Value := [.int .i64 x]

theorem own_below {W W' : World} {base : Nat} {e : TypeId} {size : Nat} {v : Value} {n : Nat} {xs : List Value} (h : W.ownsRow base e size v n xs) (hb : Below W.heap.size W W') : W'.ownsRow base e size v n xs := by
  obtain ⟨h1, ⟨rfl, rfl⟩ | ⟨g, cap, cur, rfl, hg, hc, hr⟩⟩ := h
  · exact ⟨h1, .inl ⟨rfl, rfl⟩⟩
  · exact ⟨h1, .inr ⟨g, cap, cur, rfl, hg, (hb.block g (Array.getElem?_eq_some_iff.1 hc).1).trans hc, hr⟩⟩
theorem own_block {W : World} {base : Nat} {e : TypeId} {size : Nat} {v : Value} {n : Nat} {xs : List Value} (h : W.ownsRow base e size v n xs) : ∀ k, v.ownBlock = some k → base ≤ k := by
  intro k hk
  rcases h.2 with ⟨rfl, _⟩ | ⟨g, cap, cur, rfl, hg, _⟩
  · cases hk
  · simp [Value.ownBlock] at hk
    omega
theorem own_form {W : World} {base : Nat} {e : TypeId} {size : Nat} {v : Value} {n : Nat} {xs : List Value} (h : W.ownsRow base e size v n xs) : ∃ a cap, v = .slice a n cap := by
  rcases h.2 with ⟨rfl, rfl⟩ | ⟨g, cap, cur, rfl, _⟩
  · exact ⟨none, 0, rfl⟩
  · exact ⟨_, cap, rfl⟩
theorem own_ints {W : World} {base : Nat} {v : Value} {l : List Int} (h : W.ownsRow base 3 1 v l.length (l.flatMap intC)) (hl : l.length ≤ 255) : RowOf 1 intCell W.heap.size W v l := by
  rcases h.2 with ⟨rfl, hn⟩ | ⟨g, cap, cur, rfl, hg, hb, hcap, hm, hsz, htk⟩
  · obtain rfl : l = [] := List.length_eq_zero_iff.1 hn
    exact ⟨none, 0, rfl, by simp, .inl rfl⟩
  · refine ⟨_, cap, rfl, by omega, .inr ⟨g, 0, rfl, (Array.getElem?_eq_some_iff.1 hb).1, fun j x hj i hi => ?_⟩⟩
    have h1 := flat_at (C := intC) (sz := 1) (fun _ => rfl) l j x i hj hi
    obtain rfl : i = 0 := by omega
    have h2 : (l.flatMap intC)[j * 1 + 0]? = some (.int .i64 x) := h1
    have := h.cells (g := g) rfl (j * 1 + 0) _ h2
    have hadd : (⟨g, 0, none⟩ : Addr).add (j * 1 + 0) = ⟨g, j * 1 + 0, none⟩ := by unfold Addr.add; split <;> simp_all
    rw [hadd] at this
    rw [Nat.zero_add]
    exact this

theorem infoInt : (Tryz.prog.info? 3).map (fun i => (i.zero, i.size, i.bytes)) = some (some (.int .i64 0), 1, 8) := by kernel_rfl
theorem infoInt_parts : ∃ i, Tryz.prog.info? 3 = some i ∧ i.zero = some (.int .i64 0) ∧ i.size = 1 ∧ i.bytes = 8 := by
  have h := infoInt
  cases hi : Tryz.prog.info? 3 with
  | none => rw [hi] at h; cases h
  | some i =>
    rw [hi] at h
    simp at h
    exact ⟨i, rfl, h.1, h.2.1, h.2.2⟩

theorem intC_at (x : Int) (i : Nat) (hi : i < 1) : (intC x)[i]? = some (intCell x i) := by
  obtain rfl : i = 0 := by omega
  rfl

theorem own_rows {α : Type} {C : α → List Value} {cells : α → Nat → Value} {sz : Nat} (hC : ∀ x, (C x).length = sz) (hc : ∀ x i, i < sz → (C x)[i]? = some (cells x i)) {W : World} {base : Nat} {e : TypeId} {v : Value} {l : List α}
    (h : W.ownsRow base e sz v l.length (l.flatMap C)) (hl : l.length ≤ 9223372036854775807) : RowOf sz cells W.heap.size W v l := by
  rcases h.2 with ⟨rfl, hn⟩ | ⟨g, cap, cur, rfl, hg, hb, hcap, hm, hsz, htk⟩
  · obtain rfl : l = [] := List.length_eq_zero_iff.1 hn
    exact ⟨none, 0, rfl, by simp, .inl rfl⟩
  · refine ⟨_, cap, rfl, hl, .inr ⟨g, 0, rfl, (Array.getElem?_eq_some_iff.1 hb).1, fun j x hj i hi => ?_⟩⟩
    have h1 := flat_at hC l j x i hj hi
    rw [hc x i hi] at h1
    have := h.cells (g := g) rfl (j * sz + i) _ h1
    have hadd : (⟨g, 0, none⟩ : Addr).add (j * sz + i) = ⟨g, j * sz + i, none⟩ := by unfold Addr.add; split <;> simp_all
    rw [hadd] at this
    rw [Nat.zero_add]
    exact this

theorem flat_len {α : Type} {C : α → List Value} {sz : Nat} (hC : ∀ x, (C x).length = sz) : ∀ l : List α, (l.flatMap C).length = l.length * sz
  | [] => by simp
  | x :: l => by rw [List.flatMap_cons, List.length_append, flat_len hC l, hC, List.length_cons, Nat.succ_mul]; omega

theorem news_row {α : Type} {C : α → List Value} {cells : α → Nat → Value} {sz : Nat} (h0 : 0 < sz) (hC : ∀ x, (C x).length = sz) (hc : ∀ x i, i < sz → (C x)[i]? = some (cells x i)) {W : World} {b off : Nat} {l : List α}
    (h : ∀ j x, l[j]? = some x → ∀ i, i < sz → W.cell? ⟨b, off + j * sz + i, none⟩ = some (cells x i)) : ∀ j u, (l.flatMap C)[j]? = some u → W.cell? ((⟨b, off, none⟩ : Addr).add j) = some u := by
  intro j u hu
  have hj : j < l.length * sz := by
    have := (List.getElem?_eq_some_iff.1 hu).1
    rwa [flat_len hC] at this
  have hq : j / sz < l.length := (Nat.div_lt_iff_lt_mul h0).2 hj
  obtain ⟨x, hx⟩ : ∃ x, l[j / sz]? = some x := ⟨_, List.getElem?_eq_getElem hq⟩
  have hr : j % sz < sz := Nat.mod_lt _ h0
  have e : j / sz * sz + j % sz = j := by rw [Nat.mul_comm]; exact Nat.div_add_mod j sz
  have h1 := flat_at hC l (j / sz) x (j % sz) hx hr
  rw [hc x _ hr, e, hu] at h1
  have h2 := h (j / sz) x hx (j % sz) hr
  rw [Nat.add_assoc, e, ← h1] at h2
  have hadd : (⟨b, off, none⟩ : Addr).add j = ⟨b, off + j, none⟩ := by unfold Addr.add; split <;> simp_all
  rw [hadd]
  exact h2

theorem keep_own {W W' : World} {B base n : Nat} {t e : TypeId} {cs : Array Value} {v : Value} {xs : List Value} {sz : Nat} (h : CellsAt W B t cs) (O : W.ownsRow base e sz v n xs) (hg : W.grownBy W' v.ownBlock) (hB : B < base) : CellsAt W' B t cs :=
  h.kept hg (fun e => by have := own_block O B e.symm; omega)
theorem own_empty {W : World} {base : Nat} {e : TypeId} (hb : base ≤ W.heap.size) {sz : Nat} : (W.alloc (.cells #[] e)).ownsRow base e sz (.slice (some ⟨W.heap.size, 0, none⟩) 0 0) 0 [] :=
  ⟨by simp, .inr ⟨W.heap.size, 0, #[], rfl, hb, CellsAt.new W e #[], Nat.le_refl _, Nat.zero_le _, by simp, by simp⟩⟩
theorem own_lt {W : World} {base n c g sz : Nat} {e : TypeId} {xs : List Value} (h : W.ownsRow base e sz (.slice (some ⟨g, 0, none⟩) n c) n xs) : g < W.heap.size := by
  rcases h.2 with ⟨e, _⟩ | ⟨g', cap, cur, e, _, hb, _⟩
  · cases e
  · injection e with e _ _
    injection e with e
    injection e with e
    subst e
    exact (Array.getElem?_eq_some_iff.1 hb).1

end Go.Proofs.YtlpnfbpgnfappaaGreat
