/- Texts that are laid together. -/
import Derived.Test.YthmohjgdcjafkaeGreatMrgB
import Derived.Test.YthmohjgdcjafkaeGreatProg
import Derived.RangeFuncNested
import Derived.RangeFuncBound
import Derived.RangeFuncCalls
import Derived.RangeFuncLeaves
import Derived.RangeFuncBox
import Derived.Shelf.Abstract
import Derived.Shelf.RegionOpen
import Derived.WalkKit
import Derived.OwnWalkIn
import Derived.TacticsInMore
import Derived.LoopNIn
import Derived.LoopIn
import Derived.Test.YthmohjgdcjafkaeGreatMrgA

/- The contract of the document's CheckExports. -/
namespace Go.Proofs.YthmohjgdcjafkaeGreat
open Go.RowKit Go.PlainAid

theorem any_take_succ {α : Type} (l : List α) (p : α → Bool) (j : Nat) (x : α) (h : l[j]? = some x) : (l.take (j + 1)).any p = ((l.take j).any p || p x) := by
  rw [List.take_add_one, h]; simp
theorem any_take_le {α : Type} (l : List α) (p : α → Bool) (j k : Nat) (x : α) (h : l[j]? = some x) (hk : j < k) (hp : p x = true) : (l.take k).any p = true := by
  rw [List.any_eq_true]
  refine ⟨x, ?_, hp⟩
  rw [List.mem_iff_getElem?]
  exact ⟨j, by rw [List.getElem?_take_of_lt hk]; exact h⟩

theorem toList_beq2 (x y : ByteArray) : (x.toList == y.toList) = (x == y) := by
  rw [Bool.eq_iff_iff, ba_beq, beq_iff_eq, ByteArray.toList_eq, ByteArray.toList_eq]
  constructor
  · intro h; exact ByteArray.ext (Array.toList_inj.1 h)
  · rintro rfl; rfl

set_option maxHeartbeats 2000000 in
theorem checkExports_any (l : List Exp) (v : Value) (most : Int) (w : World) (hrow : RowOf 2 Exp.cell w.heap.size w v l) (hfit : ∀ e ∈ l, e.name.size ≤ 9223372036854775807) (hl : l.length ≤ 8) (hm0 : 0 ≤ most) (hm1 : most ≤ 140737488351232) :
    Calls Tryz.prog 91 #[v, .int .i64 most] w fun e w' => e = .returned (.int .i64 (chkExps most [] l)) ∧ Below w.heap.size w w' := by
  obtain ⟨a, cap, rfl, _, hrow⟩ := hrow
  go_enter Tryz.func91, Tryz.ntmps91
  go_wp2
  go_loopw [5] (fun i wr => ∃ (k : Nat), k ≤ l.length ∧ i = .int .i64 k ∧ Hid (chkExps most [] l = chkExps most ((l.take k).map (·.name)) (l.drop k)) ∧ Below w.heap.size w wr) (fun i _ => l.length - (intOf i).toNat)
  case atStart => exact ⟨0, Nat.zero_le _, rfl, by show chkExps most [] l = chkExps most [] (l.drop 0); rfl, Below.refl _ _⟩
  case round =>
    obtain ⟨k, hk, rfl, HC, B⟩ := hrel
    by_cases hlt : k < l.length
    · obtain ⟨p, hp⟩ : ∃ p, l[k]? = some p := ⟨_, List.getElem?_eq_getElem hlt⟩
      rcases hrow with h | ⟨b, off, rfl, hbn, hcells⟩
      · subst h; simp at hlt
      obtain ⟨n, A⟩ := p
      have hn := hfit _ (List.mem_of_getElem? hp)
      dsimp only at hn
      have c0 := (B.cell (p := ⟨b, off + k * 2 + 0, none⟩) hbn).trans (hcells k _ hp 0 (by omega))
      have c1 := (B.cell (p := ⟨b, off + k * 2 + 1, none⟩) hbn).trans (hcells k _ hp 1 (by omega))
      dsimp only [Exp.cell] at c0 c1
      rw [Nat.add_zero] at c0
      have HCELL : Hid (∀ j e, l[j]? = some e → w.cell? ⟨b, off + j * 2, none⟩ = some (.string e.name)) := fun j e hj => hcells j e hj 0 (by omega)
      have htk : (l.take (k + 1)).map (·.name) = (l.take k).map (·.name) ++ [n] := by rw [List.take_add_one, hp]; simp
      have HR : Hid (chkExps most [] l = if expErr most ((l.take k).map (·.name)) ⟨n, A⟩ = 0 then chkExps most ((l.take (k + 1)).map (·.name)) (l.drop (k + 1)) else expErr most ((l.take k).map (·.name)) ⟨n, A⟩) := by
        show chkExps most [] l = _
        rw [HC.out, drop_at hp, htk]; rfl
      clear HC hcells htk
      cases h1 : isNm n
      · have HV : Hid (expErr most ((l.take k).map (·.name)) ⟨n, A⟩ = 1) := by show expErr _ _ _ = 1; simp [expErr, h1]
        go_wp2_with (go_at_call 89; refine (isNameR_any _ _ (by assumption)).mono ?_; rintro e w' ⟨rfl, rfl⟩)
        go_ret
        exact ⟨by rw [HR.out, HV.out]; rfl, B⟩
      · go_wp2_with (go_at_call 89; refine (isNameR_any _ _ (by assumption)).mono ?_; rintro e w' ⟨rfl, rfl⟩)
        go_loopw [6] (fun i wr2 => ∃ (j : Nat), j ≤ k ∧ i = .int .i64 j ∧ Hid (((l.take j).map (·.name)).any (fun x => x == n) = false) ∧ Below w.heap.size w wr2) (fun i _ => k - (intOf i).toNat)
        case atStart => exact ⟨0, Nat.zero_le _, rfl, by show (((l.take 0).map (·.name)).any (fun x => x == n) = false); rfl, B⟩
        case round =>
          obtain ⟨j, hj, rfl, HN, B2⟩ := hrel
          by_cases hjk : j < k
          · obtain ⟨q, hq⟩ : ∃ q, l[j]? = some q := ⟨_, List.getElem?_eq_getElem (by omega)⟩
            obtain ⟨n', A'⟩ := q
            have d0 := (B2.cell (p := ⟨b, off + j * 2, none⟩) hbn).trans (HCELL.out j _ hq)
            have d1 := (B2.cell (p := ⟨b, off + k * 2, none⟩) hbn).trans (HCELL.out k _ hp)
            dsimp only at d0 d1
            have hel := toList_beq2 n' n
            cases he : n' == n
            all_goals rw [he] at hel
            · have HN2 : Hid (((l.take (j + 1)).map (·.name)).any (fun x => x == n) = false) := by
                show ((l.take (j + 1)).map (·.name)).any (fun x => x == n) = false
                rw [List.take_add_one, hq]
                have := HN.out
                simp only [List.map_append, List.any_append, this]
                simp [he]
              clear hq hp c0 c1
              go_wp2
              go_quiet (fail)
              go_wp2
              exact ⟨⟨j + 1, by omega, by go_num, HN2, below_drewN B2 _⟩, by simp [intOf]; omega⟩
            · have HV : Hid (expErr most ((l.take k).map (·.name)) ⟨n, A⟩ = 6) := by
                show expErr _ _ _ = 6
                have : ((l.take k).map (·.name)).any (fun x => x == n) = true := by
                  rw [List.any_map]
                  exact any_take_le l _ j k _ hq hjk he
                simp only [expErr, h1, this]; rfl
              clear hq hp c0 c1
              go_wp2
              go_quiet (fail)
              go_wp2
              go_ret
              exact ⟨by rw [HR.out, HV.out]; rfl, below_drewN B2 _⟩
          · obtain rfl : j = k := by omega
            have d1 := (B2.cell (p := ⟨b, off + j * 2 + 1, none⟩) hbn).trans ((B.cell (p := ⟨b, off + j * 2 + 1, none⟩) hbn).symm.trans c1)
            cases h3 : betw A 0 (most - 1)
            · have HV : Hid (expErr most ((l.take j).map (·.name)) ⟨n, A⟩ = 3) := by show expErr _ _ _ = 3; simp only [expErr, h1, HN.out, h3]; rfl
              clear hp c0 c1
              go_wp2_with (go_at_call 90; refine (between_any _ _ _ _).mono ?_; rintro e w' ⟨rfl, rfl⟩)
              go_ret
              exact ⟨by rw [HR.out, HV.out]; rfl, B2⟩
            · have HV : Hid (expErr most ((l.take j).map (·.name)) ⟨n, A⟩ = 0) := by show expErr _ _ _ = 0; simp only [expErr, h1, HN.out, h3]; rfl
              clear hp c0 c1
              go_wp2_with (go_at_call 90; refine (between_any _ _ _ _).mono ?_; rintro e w' ⟨rfl, rfl⟩)
              exact ⟨⟨j + 1, by omega, by go_num, by show chkExps most [] l = _; rw [HR.out, if_pos HV.out], B2⟩, by simp [intOf]; omega⟩
    · obtain rfl : k = l.length := by omega
      have HZ : Hid (chkExps most [] l = 0) := by
        show chkExps most [] l = 0
        rw [HC.out, List.drop_length]; rfl
      go_wp2
      go_ret
      exact ⟨by rw [HZ.out]; rfl, B⟩

end Go.Proofs.YthmohjgdcjafkaeGreat

/- The contract of the document's CheckModule. -/
namespace Go.Proofs.YthmohjgdcjafkaeGreat
open Go.RowKit Go.PlainAid

theorem impErr_own (met : List (ByteArray × ByteArray)) (i : Imp) : impErr met i = if impOwn i = 1 then 1 else if (met.any fun x => x.1 == i.mod && x.2 == i.name) = true then 6 else impOwn i := by
  unfold impErr impOwn
  cases h1 : isNm i.mod && isNm i.name
  · simp
  · cases h2 : isVer i.major i.minor
    · simp
    · simp
theorem impOwn_three (i : Imp) : impOwn i = 1 ∨ impOwn i = 3 ∨ impOwn i = 0 := by
  unfold impOwn
  cases h1 : isNm i.mod && isNm i.name
  · simp
  · cases h2 : isVer i.major i.minor <;> simp

set_option maxRecDepth 100000 in
set_option maxHeartbeats 4000000 in
/-- CheckModule's loops: where nothing is wrong ahead of the imports. -/
theorem checkModule_good (M : Mod) (pe pi pp : Option Addr) (ke ki kp : Nat) (w : World)
    (hE : RowOf 2 Exp.cell w.heap.size w (.slice pe M.exps.length ke) M.exps) (hI : RowOf 4 Imp.cell w.heap.size w (.slice pi M.imps.length ki) M.imps) (hP : RowOf 4 Pat.cell w.heap.size w (.slice pp M.pats.length kp) M.pats) (hf : M.fits)
    (h1 : isNm M.name = true) (h2 : (M.name.toList == [107, 101, 114, 110, 101, 108]) = false) (h3 : betw M.major 0 255 = true) (h4 : betw M.minor 0 255 = true) (t1 : M.text.size ≤ 256) (t2 : M.exps.length ≤ 6) (t3 : M.imps.length ≤ 6) (t4 : M.pats.length ≤ 12)
    (h5 : ((M.text.size : Int) == 0) = false) (h6 : decide (0 < (M.text.size : Int) % 4) = false) (h7 : chkExps M.text.size [] M.exps = 0) :
    Calls Tryz.prog 44 #[.agg #[.string M.name, .int .i64 M.major, .int .i64 M.minor, .string M.text, .slice pe M.exps.length ke, .slice pi M.imps.length ki, .slice pp M.pats.length kp]] w fun e w' =>
      e = .returned (.int .i64 (if chkImps [] M.imps ≠ 0 then chkImps [] M.imps else chkPats M.text.size M.imps.length 0 M.pats)) ∧ Below w.heap.size w w' := by
  generalize hRES : (if chkImps [] M.imps ≠ 0 then chkImps [] M.imps else chkPats M.text.size M.imps.length 0 M.pats) = RES
  have HRES : Hid ((if chkImps [] M.imps ≠ 0 then chkImps [] M.imps else chkPats M.text.size M.imps.length 0 M.pats) = RES) := hRES
  clear hRES
  obtain ⟨z1, z2, z3, z4⟩ := hf
  have HE : Hid (∀ w', Below w.heap.size w w' → Calls Tryz.prog 91 #[.slice pe M.exps.length ke, .int .i64 M.text.size] w' fun e w'' => e = .returned (.int .i64 0) ∧ Below w'.heap.size w' w'') := by
    intro w' hb
    have := checkExports_any M.exps _ M.text.size w' ((hE.below hb).more hb.size) z3 (by omega) (by omega) (by omega)
    rwa [h7] at this
  clear hE z3 h7
  obtain ⟨N, a, b, T, es, is, ps⟩ := M
  dsimp only at *
  have HZ4 : Hid (∀ e ∈ is, e.fits) := z4
  have g1 : decide (256 < (T.size : Int)) = false := decide_eq_false (by omega)
  have g1' : decide (256 < T.size) = false := decide_eq_false (by omega)
  have g2 : decide (6 < (es.length : Int)) = false := decide_eq_false (by omega)
  have g2' : decide (6 < es.length) = false := decide_eq_false (by omega)
  have g3 : decide (6 < (is.length : Int)) = false := decide_eq_false (by omega)
  have g3' : decide (6 < is.length) = false := decide_eq_false (by omega)
  have g4 : decide (12 < (ps.length : Int)) = false := decide_eq_false (by omega)
  have g4' : decide (12 < ps.length) = false := decide_eq_false (by omega)
  have HII : Hid (RowOf 4 Imp.cell w.heap.size w (.slice pi is.length ki) is) := hI
  have HPP : Hid (RowOf 4 Pat.cell w.heap.size w (.slice pp ps.length kp) ps) := hP
  have HW1 : Hid (Below w.heap.size w (w.alloc (.cells #[.string N, .int .i64 a, .int .i64 b, .string T, .slice pe es.length ke, .slice pi is.length ki, .slice pp ps.length kp] 31))) := (Below.refl _ _).alloc (Nat.le_refl _) _
  clear hI hP z4
  go_enter Tryz.func44, Tryz.ntmps44
  go_wp2_with (first
    | (go_at_call 89; refine (isNameR_any _ _ (by assumption)).mono ?_; rintro e w' ⟨rfl, rfl⟩)
    | (go_at_call 90; refine (between_any _ _ _ _).mono ?_; rintro e w' ⟨rfl, rfl⟩))
  refine (HE.out _ HW1.out).mono ?_
  rintro e w1 ⟨rfl, b1⟩
  have B1 := HW1.out.trans (b1.mono HW1.out.size)
  have cc : ∀ o, w1.cell? ⟨w.heap.size, o, none⟩ = (w.alloc (.cells #[.string N, .int .i64 a, .int .i64 b, .string T, .slice pe es.length ke, .slice pi is.length ki, .slice pp ps.length kp] 31)).cell? ⟨w.heap.size, o, none⟩ := fun o => b1.cell (p := ⟨w.heap.size, o, none⟩) (by simp)
  have hz1 : w.heap.size < w1.heap.size := by have := b1.size; simp at this; omega
  have d3 := cc 3
  have d5 := cc 5
  have d6 := cc 6
  simp at d3 d5 d6
  obtain ⟨_, _, e0, _, hI⟩ := (HII.out.below B1).more B1.size
  obtain ⟨_, _, e1, _, hP⟩ := (HPP.out.below B1).more B1.size
  cases e0; cases e1
  clear cc b1 HE HII HPP HW1 g1 g1' g2 g2' g3 g3' g4 g4' h1 h2 h3 h4 h6
  go_wp2
  go_loopw [4] (fun i wr => ∃ (k : Nat), k ≤ is.length ∧ i = .int .i64 k ∧ Hid (chkImps [] is = chkImps ((is.take k).map fun x => (x.mod, x.name)) (is.drop k)) ∧ Below w1.heap.size w1 wr) (fun i _ => is.length - (intOf i).toNat)
  case atStart => exact ⟨0, Nat.zero_le _, rfl, by show chkImps [] is = chkImps [] (is.drop 0); rfl, Below.refl _ _⟩
  case round =>
    obtain ⟨k, hk, rfl, HC, B⟩ := hrel
    have k5 := (B.cell (p := ⟨w.heap.size, 5, none⟩) hz1).trans d5
    by_cases hlt : k < is.length
    · obtain ⟨p, hp⟩ : ∃ p, is[k]? = some p := ⟨_, List.getElem?_eq_getElem hlt⟩
      rcases hI with h | ⟨bb, off, rfl, hbn, hcells⟩
      · subst h; simp at hlt
      have hpf := HZ4.out _ (List.mem_of_getElem? hp)
      obtain ⟨m, n, va, vb⟩ := p
      have HCELL : Hid (∀ j e, is[j]? = some e → w1.cell? ⟨bb, off + j * 4, none⟩ = some (.string e.mod) ∧ w1.cell? ⟨bb, off + j * 4 + 1, none⟩ = some (.string e.name)) := fun j e hj => ⟨hcells j e hj 0 (by omega), hcells j e hj 1 (by omega)⟩
      have c0 := (B.cell (p := ⟨bb, off + k * 4 + 0, none⟩) hbn).trans (hcells k _ hp 0 (by omega))
      have c1 := (B.cell (p := ⟨bb, off + k * 4 + 1, none⟩) hbn).trans (hcells k _ hp 1 (by omega))
      have c2 := (B.cell (p := ⟨bb, off + k * 4 + 2, none⟩) hbn).trans (hcells k _ hp 2 (by omega))
      have c3 := (B.cell (p := ⟨bb, off + k * 4 + 3, none⟩) hbn).trans (hcells k _ hp 3 (by omega))
      dsimp only [Imp.cell] at c0 c1 c2 c3
      rw [Nat.add_zero] at c0
      have htk : ((is.take (k + 1)).map fun x => (x.mod, x.name)) = ((is.take k).map fun x => (x.mod, x.name)) ++ [(m, n)] := by rw [List.take_add_one, hp]; simp
      have HR : Hid (chkImps [] is = if impErr ((is.take k).map fun x => (x.mod, x.name)) ⟨m, n, va, vb⟩ = 0 then chkImps ((is.take (k + 1)).map fun x => (x.mod, x.name)) (is.drop (k + 1)) else impErr ((is.take k).map fun x => (x.mod, x.name)) ⟨m, n, va, vb⟩) := by
        show chkImps [] is = _
        rw [HC.out, drop_at hp, htk]; rfl
      have HCI : Hid (∀ w, Calls Tryz.prog 92 #[.agg #[.string m, .string n, .int .i64 va, .int .i64 vb]] w fun e w' => e = .returned (.int .i64 (impOwn ⟨m, n, va, vb⟩)) ∧ Below w.heap.size w w') := fun w => checkImport_any ⟨m, n, va, vb⟩ w hpf
      have how := impOwn_three ⟨m, n, va, vb⟩
      have HIO := impErr_own ((is.take k).map fun x => (x.mod, x.name)) ⟨m, n, va, vb⟩
      dsimp only at HIO
      have HIO2 : Hid (impErr ((is.take k).map fun x => (x.mod, x.name)) ⟨m, n, va, vb⟩ = if impOwn ⟨m, n, va, vb⟩ = 1 then 1 else if (((is.take k).map fun x => (x.mod, x.name)).any fun x => x.1 == m && x.2 == n) = true then 6 else impOwn ⟨m, n, va, vb⟩) := HIO
      clear HC hcells htk HIO hpf
      generalize impErr ((is.take k).map fun x => (x.mod, x.name)) ⟨m, n, va, vb⟩ = IE at *
      generalize impOwn ⟨m, n, va, vb⟩ = IW at *
      by_cases ho : IW = 1
      · subst ho
        have HV : Hid (chkImps [] is = 1) := by show chkImps [] is = 1; rw [HR.out, HIO2.out]; rfl
        go_wp2_with fail
        refine (HCI.out _).mono ?_
        rintro e w2 ⟨rfl, b2⟩
        go_wp2
        go_ret
        exact ⟨by rw [← HRES.out, HV.out]; rfl, B1.trans ((B.trans (b2.mono B.size)).mono B1.size)⟩
      · have ho' : (IW == 1) = false := beq_eq_false_iff_ne.2 ho
        go_wp2_with fail
        refine (HCI.out _).mono ?_
        rintro e w2 ⟨rfl, b2⟩
        have B2 := B.trans (b2.mono B.size)
        clear c0 c1 c2 c3 k5
        go_wp2
        go_loopw [6] (fun i wr2 => ∃ (j : Nat), j ≤ k ∧ i = .int .i64 j ∧ Hid ((((is.take j).map fun x => (x.mod, x.name)).any fun x => x.1 == m && x.2 == n) = false) ∧ Below w1.heap.size w1 wr2) (fun i _ => k - (intOf i).toNat)
        case atStart => exact ⟨0, Nat.zero_le _, rfl, by show (((is.take 0).map fun x => (x.mod, x.name)).any fun x => x.1 == m && x.2 == n) = false; rfl, B2⟩
        case round =>
          obtain ⟨j, hj, rfl, HN, B3⟩ := hrel
          have k5 := (B3.cell (p := ⟨w.heap.size, 5, none⟩) hz1).trans d5
          by_cases hjk : j < k
          · obtain ⟨q, hq⟩ : ∃ q, is[j]? = some q := ⟨_, List.getElem?_eq_getElem (by omega)⟩
            obtain ⟨m', n', va', vb'⟩ := q
            have x0 := (B3.cell (p := ⟨bb, off + j * 4, none⟩) hbn).trans (HCELL.out j _ hq).1
            have x1 := (B3.cell (p := ⟨bb, off + j * 4 + 1, none⟩) hbn).trans (HCELL.out j _ hq).2
            have y0 := (B3.cell (p := ⟨bb, off + k * 4, none⟩) hbn).trans (HCELL.out k _ hp).1
            have y1 := (B3.cell (p := ⟨bb, off + k * 4 + 1, none⟩) hbn).trans (HCELL.out k _ hp).2
            dsimp only at x0 x1 y0 y1
            have hm := toList_beq2 m' m
            have hn := toList_beq2 n' n
            cases he : (m' == m && n' == n)
            · have HN2 : Hid ((((is.take (j + 1)).map fun x => (x.mod, x.name)).any fun x => x.1 == m && x.2 == n) = false) := by
                show (((is.take (j + 1)).map fun x => (x.mod, x.name)).any fun x => x.1 == m && x.2 == n) = false
                rw [List.take_add_one, hq]
                have := HN.out
                simp only [List.map_append, List.any_append, this]
                simp [he]
              have hsplit : (m'.toList == m.toList) = false ∨ ((m'.toList == m.toList) = true ∧ (n'.toList == n.toList) = false) := by
                rw [hm, hn]
                cases e1 : m' == m
                · exact .inl rfl
                · rw [e1] at he; exact .inr ⟨rfl, he⟩
              clear hq hp hm hn he
              rcases hsplit with hs1 | ⟨hs1, hs2⟩
              all_goals
                go_wp2
                go_quiet (fail)
                go_wp2
                exact ⟨⟨j + 1, by omega, by go_num, HN2, below_drewN B3 _⟩, by simp [intOf]; omega⟩
            · have HV : Hid (chkImps [] is = 6) := by
                show chkImps [] is = 6
                have : (((is.take k).map fun x => (x.mod, x.name)).any fun x => x.1 == m && x.2 == n) = true := by
                  rw [List.any_map]
                  exact any_take_le is _ j k _ hq hjk he
                have e6 : IE = 6 := by rw [HIO2.out, if_neg ho, if_pos this]
                rw [HR.out, e6]; rfl
              have hs1 : (m'.toList == m.toList) = true := by rw [hm]; exact (Bool.and_eq_true _ _ ▸ he).1
              have hs2 : (n'.toList == n.toList) = true := by rw [hn]; exact (Bool.and_eq_true _ _ ▸ he).2
              clear hq hp hm hn he
              go_wp2
              go_quiet (fail)
              go_wp2
              go_ret
              exact ⟨by rw [← HRES.out, HV.out]; rfl, B1.trans ((below_drewN B3 _).mono B1.size)⟩
          · obtain rfl : j = k := by omega
            have hIE : IE = IW := by rw [HIO2.out, if_neg ho, if_neg (by rw [HN.out]; simp)]
            have HIE : Hid (IE = IW) := hIE
            clear hIE
            rcases how with h | h | h
            · exact absurd h ho
            · subst h
              have HV : Hid (chkImps [] is = 3) := by show chkImps [] is = 3; rw [HR.out, HIE.out]; rfl
              go_wp2
              go_ret
              exact ⟨by rw [← HRES.out, HV.out]; rfl, B1.trans (B3.mono B1.size)⟩
            · subst h
              have HV : Hid (chkImps [] is = chkImps ((is.take (j + 1)).map fun x => (x.mod, x.name)) (is.drop (j + 1))) := by show chkImps [] is = _; rw [HR.out, if_pos HIE.out]
              go_wp2
              exact ⟨⟨j + 1, by omega, by go_num, HV, B3⟩, by simp [intOf]; omega⟩
    · obtain rfl : k = is.length := by omega
      have HV : Hid (chkPats T.size is.length 0 ps = RES) := by
        show chkPats T.size is.length 0 ps = RES
        rw [← HRES.out, if_neg]
        rw [HC.out, List.drop_length]
        simp [chkImps]
      clear HC HRES hI
      go_wp2
      have k6 := (B.cell (p := ⟨w.heap.size, 6, none⟩) hz1).trans d6
      go_loopw [7, 8] (fun en i wr => ∃ (k : Nat) (E : Int), k ≤ ps.length ∧ i = .int .i64 k ∧ en = .int .i64 E ∧ 0 ≤ E ∧ E ≤ 140737488351232 ∧ Hid (RES = chkPats T.size is.length E (ps.drop k)) ∧ Below w1.heap.size w1 wr) (fun _ i _ => ps.length - (intOf i).toNat)
      case atStart => exact ⟨0, 0, Nat.zero_le _, rfl, rfl, by omega, by omega, by show RES = _; rw [← HV.out]; rfl, B⟩
      case round =>
        obtain ⟨k, E, hk, rfl, rfl, e0, e1, HC, B2⟩ := hrel
        have k6 := (B2.cell (p := ⟨w.heap.size, 6, none⟩) hz1).trans d6
        have k5 := (B2.cell (p := ⟨w.heap.size, 5, none⟩) hz1).trans d5
        have k3 := (B2.cell (p := ⟨w.heap.size, 3, none⟩) hz1).trans d3
        by_cases hlt : k < ps.length
        · obtain ⟨p, hp⟩ : ∃ p, ps[k]? = some p := ⟨_, List.getElem?_eq_getElem hlt⟩
          rcases hP with h | ⟨bb, off, rfl, hbn, hcells⟩
          · subst h; simp at hlt
          obtain ⟨K, A, S, D⟩ := p
          have c0 := (B2.cell (p := ⟨bb, off + k * 4 + 0, none⟩) hbn).trans (hcells k _ hp 0 (by omega))
          have c1 := (B2.cell (p := ⟨bb, off + k * 4 + 1, none⟩) hbn).trans (hcells k _ hp 1 (by omega))
          have c2 := (B2.cell (p := ⟨bb, off + k * 4 + 2, none⟩) hbn).trans (hcells k _ hp 2 (by omega))
          have c3 := (B2.cell (p := ⟨bb, off + k * 4 + 3, none⟩) hbn).trans (hcells k _ hp 3 (by omega))
          dsimp only [Pat.cell] at c0 c1 c2 c3
          rw [Nat.add_zero] at c0
          have HR : Hid (RES = if patErr T.size is.length E ⟨K, A, S, D⟩ = 0 then chkPats T.size is.length (A + width K) (ps.drop (k + 1)) else patErr T.size is.length E ⟨K, A, S, D⟩) := by
            show RES = _
            rw [HC.out, drop_at hp]; rfl
          have key := patErr_cases T.size is.length E K A S D
          have hwd := width_bd K
          have PW : Hid (∀ w, Calls Tryz.prog 93 #[.int .i64 K] w fun e w' => e = .returned (.int .i64 (width K)) ∧ w' = w) := fun w => widthOf_any K w
          clear HC hcells hp HV
          generalize patErr T.size is.length E ⟨K, A, S, D⟩ = R at key HR
          generalize width K = Wd at *
          have cases5 : (Wd = 0 ∧ R = 7) ∨ ((Wd == 0) = false ∧ (betw S (-1) ((is.length : Int) - 1) = false ∧ R = 3 ∨ betw S (-1) ((is.length : Int) - 1) = true ∧ (betw D 0 65535 = false ∧ R = 3 ∨ betw D 0 65535 = true ∧ (betw A 0 ((T.size : Int) - Wd) = false ∧ R = 3 ∨ betw A 0 ((T.size : Int) - Wd) = true ∧ 0 ≤ A ∧ A ≤ (T.size : Int) - Wd ∧ (A < E ∧ R = 4 ∨ E ≤ A ∧ R = 0))))) := by
            rcases key with ⟨h0, h⟩ | ⟨h0, ⟨h1, h⟩ | ⟨h1, h2, h⟩ | ⟨h1, h2, h3, h⟩ | ⟨h1, h2, h3, h4, h⟩ | ⟨h1, h2, h3, h4, ⟨h5, h⟩ | ⟨h5, h6, h⟩ | ⟨h5, h6, h7, h⟩ | ⟨h5, h6, h7, h⟩⟩⟩
            · exact .inl ⟨h0, h⟩
            all_goals refine .inr ⟨beq_eq_false_iff_ne.2 h0, ?_⟩
            · exact .inl ⟨betw_false (.inl h1), h⟩
            · exact .inl ⟨betw_false (.inr (by omega)), h⟩
            all_goals refine .inr ⟨betw_true (by omega) (by omega), ?_⟩
            · exact .inl ⟨betw_false (.inl h3), h⟩
            · exact .inl ⟨betw_false (.inr h4), h⟩
            all_goals refine .inr ⟨betw_true (by omega) (by omega), ?_⟩
            · exact .inl ⟨betw_false (.inl h5), h⟩
            · exact .inl ⟨betw_false (.inr h6), h⟩
            · exact .inr ⟨betw_true h5 h6, h5, h6, .inl ⟨h7, h⟩⟩
            · exact .inr ⟨betw_true h5 h6, h5, h6, .inr ⟨h7, h⟩⟩
          clear key
          obtain ⟨hw0, hw4⟩ := hwd
          have ka5 : ∀ o, (wr.alloc o).cell? ⟨w.heap.size, 5, none⟩ = some (.slice pi is.length ki) := fun o => cell_kept k5 (World.grownBy_alloc wr o none) (fun r e => by cases e)
          have ka3 : ∀ o, (wr.alloc o).cell? ⟨w.heap.size, 3, none⟩ = some (.string T) := fun o => cell_kept k3 (World.grownBy_alloc wr o none) (fun r e => by cases e)
          rcases cases5 with ⟨rfl, rfl⟩ | ⟨h0, ⟨q1, rfl⟩ | ⟨q1, ⟨q2, rfl⟩ | ⟨q2, ⟨q3, rfl⟩ | ⟨q3, a0, a1, ⟨q4, rfl⟩ | ⟨q4, rfl⟩⟩⟩⟩⟩
          all_goals
            go_wp2_with (first
              | (go_at_call 93; refine (PW.out _).mono ?_; rintro e w' ⟨rfl, rfl⟩)
              | (go_at_call 90; refine (between_any _ _ _ _).mono ?_; rintro e w' ⟨rfl, rfl⟩))
          case roundEnd =>
            exact ⟨⟨k + 1, A + Wd, by omega, by go_num, rfl, by omega, by omega, HR.out, B2.alloc B2.size _⟩, by simp [intOf]; omega⟩
          all_goals
            go_ret
            exact ⟨by rw [HR.out]; rfl, B1.trans ((B2.alloc B2.size _).mono B1.size)⟩
        · obtain rfl : k = ps.length := by omega
          have HZ : Hid (RES = 0) := by
            show RES = 0
            rw [HC.out, List.drop_length]; rfl
          go_wp2
          go_ret
          exact ⟨by rw [HZ.out]; rfl, B1.trans (B2.mono B1.size)⟩

end Go.Proofs.YthmohjgdcjafkaeGreat

/- The contract of the document's CheckModule. -/
namespace Go.Proofs.YthmohjgdcjafkaeGreat
open Go.RowKit Go.PlainAid

set_option maxRecDepth 100000 in
set_option maxHeartbeats 2000000 in
theorem checkModule_any (M : Mod) (v : Value) (w : World) (hM : IsMod w.heap.size w v M) (hf : M.fits) :
    Calls Tryz.prog 44 #[v] w fun e w' => e = .returned (.int .i64 (chkMod M)) ∧ Below w.heap.size w w' := by
  have key := chkMod_cases M
  rw [← kern_form] at key
  obtain ⟨ve, vi, vp, rfl, hE, hI, hP⟩ := hM
  have hE' := hE
  have hI' := hI
  have hP' := hP
  obtain ⟨pe, ke, rfl, _, _⟩ := hE'
  obtain ⟨pi, ki, rfl, _, _⟩ := hI'
  obtain ⟨pp, kp, rfl, _, _⟩ := hP'
  obtain ⟨z1, z2, z3, z4⟩ := hf
  by_cases hgood : isNm M.name = true ∧ (M.name.toList == [107, 101, 114, 110, 101, 108]) = false ∧ isVer M.major M.minor = true ∧ M.text.size ≤ 256 ∧ M.exps.length ≤ 6 ∧ M.imps.length ≤ 6 ∧ M.pats.length ≤ 12 ∧ M.text.size ≠ 0 ∧ M.text.size % 4 = 0 ∧ chkExps M.text.size [] M.exps = 0
  · obtain ⟨h1, h2, h3, t1, t2, t3, t4, h5, h6, h7⟩ := hgood
    have hv : betw M.major 0 255 = true ∧ betw M.minor 0 255 = true := by simpa [isVer] using h3
    have := checkModule_good M pe pi pp ke ki kp w hE hI hP ⟨z1, z2, z3, z4⟩ h1 h2 hv.1 hv.2 t1 t2 t3 t4 (beq_eq_false_iff_ne.2 (by omega)) (decide_eq_false (by omega)) h7
    have e : chkMod M = if chkImps [] M.imps ≠ 0 then chkImps [] M.imps else chkPats M.text.size M.imps.length 0 M.pats := by
      unfold chkMod
      rw [kern_form] at h2
      rw [if_neg (by simp [h1, h2]), if_neg (by simp [h3]), if_neg (by omega), if_neg (by omega), if_neg (by simp [h7])]
    rwa [e]
  · have HE : Hid (∀ w', Below w.heap.size w w' → M.exps.length ≤ 6 → M.text.size ≤ 256 → Calls Tryz.prog 91 #[.slice pe M.exps.length ke, .int .i64 M.text.size] w' fun e w'' => e = .returned (.int .i64 (chkExps M.text.size [] M.exps)) ∧ Below w'.heap.size w' w'') :=
      fun w' hb hl ht => checkExports_any M.exps _ M.text.size w' ((hE.below hb).more hb.size) z3 (by omega) (by omega) (by omega)
    have fin : (isNm M.name = false ∧ chkMod M = 1) ∨ (isNm M.name = true ∧ (M.name.toList == [107, 101, 114, 110, 101, 108]) = true ∧ chkMod M = 1) ∨ (isNm M.name = true ∧ (M.name.toList == [107, 101, 114, 110, 101, 108]) = false ∧ (betw M.major 0 255 = false ∧ chkMod M = 3 ∨ betw M.major 0 255 = true ∧ (betw M.minor 0 255 = false ∧ chkMod M = 3 ∨ betw M.minor 0 255 = true ∧
        (256 < M.text.size ∧ chkMod M = 2 ∨ M.text.size ≤ 256 ∧ (6 < M.exps.length ∧ chkMod M = 2 ∨ M.exps.length ≤ 6 ∧ (6 < M.imps.length ∧ chkMod M = 2 ∨ M.imps.length ≤ 6 ∧ (12 < M.pats.length ∧ chkMod M = 2 ∨ M.pats.length ≤ 12 ∧
          (M.text.size = 0 ∧ chkMod M = 1 ∨ M.text.size ≠ 0 ∧ (M.text.size % 4 ≠ 0 ∧ chkMod M = 1 ∨ M.text.size % 4 = 0 ∧ (chkExps M.text.size [] M.exps ≠ 0 ∧ chkMod M = chkExps M.text.size [] M.exps)))))))))) := by
      rcases key with ⟨h1, h⟩ | ⟨h1, ⟨h2, h⟩ | ⟨h2, key⟩⟩
      · exact .inl ⟨h1, h⟩
      · exact .inr (.inl ⟨h1, h2, h⟩)
      refine .inr (.inr ⟨h1, h2, ?_⟩)
      rcases key with ⟨h3, h⟩ | ⟨h3, key⟩
      · cases ha : betw M.major 0 255
        · exact .inl ⟨rfl, h⟩
        · cases hb : betw M.minor 0 255
          · exact .inr ⟨rfl, .inl ⟨rfl, h⟩⟩
          · rw [isVer, ha, hb] at h3; cases h3
      have hv : betw M.major 0 255 = true ∧ betw M.minor 0 255 = true := by simpa [isVer] using h3
      refine .inr ⟨hv.1, .inr ⟨hv.2, ?_⟩⟩
      rcases key with ⟨h4, h⟩ | ⟨h4, t1, t2, t3, t4, key⟩
      · by_cases a1 : 256 < M.text.size
        · exact .inl ⟨a1, h⟩
        by_cases a2 : 6 < M.exps.length
        · exact .inr ⟨by omega, .inl ⟨a2, h⟩⟩
        by_cases a3 : 6 < M.imps.length
        · exact .inr ⟨by omega, .inr ⟨by omega, .inl ⟨a3, h⟩⟩⟩
        by_cases a4 : 12 < M.pats.length
        · exact .inr ⟨by omega, .inr ⟨by omega, .inr ⟨by omega, .inl ⟨a4, h⟩⟩⟩⟩
        · exfalso
          unfold tooManyB at h4
          rw [decide_eq_false (show ¬ 256 < (M.text.size : Int) by omega), decide_eq_false (show ¬ 6 < (M.exps.length : Int) by omega), decide_eq_false (show ¬ 6 < (M.imps.length : Int) by omega), decide_eq_false (show ¬ 12 < (M.pats.length : Int) by omega)] at h4
          cases h4
      refine .inr ⟨t1, .inr ⟨t2, .inr ⟨t3, .inr ⟨t4, ?_⟩⟩⟩⟩
      rcases key with ⟨h5, h⟩ | ⟨h5, ⟨h6, h⟩ | ⟨h6, ⟨h7, h⟩ | ⟨h7, _⟩⟩⟩
      · exact .inl ⟨h5, h⟩
      · exact .inr ⟨by omega, .inl ⟨h6, h⟩⟩
      · exact .inr ⟨by omega, .inr ⟨h6, h7, h⟩⟩
      · exact absurd ⟨h1, h2, h3, t1, t2, t3, t4, by omega, h6, h7⟩ hgood
    clear key hgood hE hI hP z3 z4
    generalize chkExps M.text.size [] M.exps = ce at *
    generalize chkMod M = R at *
    obtain ⟨N, a, b, T, es, is, ps⟩ := M
    dsimp only at *
    rename_i q1 q2 q3
    clear q1 q2 q3
    have HW1 : Hid (Below w.heap.size w (w.alloc (.cells #[.string N, .int .i64 a, .int .i64 b, .string T, .slice pe es.length ke, .slice pi is.length ki, .slice pp ps.length kp] 31))) := (Below.refl _ _).alloc (Nat.le_refl _) _
    rcases fin with ⟨h1, rfl⟩ | ⟨h1, h2, rfl⟩ | ⟨h1, h2, ⟨h3, rfl⟩ | ⟨h3, ⟨h4, rfl⟩ | ⟨h4, ⟨k1, rfl⟩ | ⟨k1, ⟨k2, rfl⟩ | ⟨k2, ⟨k3, rfl⟩ | ⟨k3, ⟨k4, rfl⟩ | ⟨k4, ⟨h5, rfl⟩ | ⟨h5, ⟨h6, rfl⟩ | ⟨h6, h7, rfl⟩⟩⟩⟩⟩⟩⟩⟩⟩
    · go_enter Tryz.func44, Tryz.ntmps44
      go_wp2_with (first
        | (go_at_call 89; refine (isNameR_any _ _ (by assumption)).mono ?_; rintro e w' ⟨rfl, rfl⟩)
        | (go_at_call 90; refine (between_any _ _ _ _).mono ?_; rintro e w' ⟨rfl, rfl⟩))
      go_ret
      exact ⟨rfl, HW1.out⟩
    · go_enter Tryz.func44, Tryz.ntmps44
      go_wp2_with (first
        | (go_at_call 89; refine (isNameR_any _ _ (by assumption)).mono ?_; rintro e w' ⟨rfl, rfl⟩)
        | (go_at_call 90; refine (between_any _ _ _ _).mono ?_; rintro e w' ⟨rfl, rfl⟩))
      go_ret
      exact ⟨rfl, HW1.out⟩
    · go_enter Tryz.func44, Tryz.ntmps44
      go_wp2_with (first
        | (go_at_call 89; refine (isNameR_any _ _ (by assumption)).mono ?_; rintro e w' ⟨rfl, rfl⟩)
        | (go_at_call 90; refine (between_any _ _ _ _).mono ?_; rintro e w' ⟨rfl, rfl⟩))
      go_ret
      exact ⟨rfl, HW1.out⟩
    · go_enter Tryz.func44, Tryz.ntmps44
      go_wp2_with (first
        | (go_at_call 89; refine (isNameR_any _ _ (by assumption)).mono ?_; rintro e w' ⟨rfl, rfl⟩)
        | (go_at_call 90; refine (between_any _ _ _ _).mono ?_; rintro e w' ⟨rfl, rfl⟩))
      go_ret
      exact ⟨rfl, HW1.out⟩
    · have gt : (256 : Int) < T.size := by omega
      go_enter Tryz.func44, Tryz.ntmps44
      go_wp2_with (first
        | (go_at_call 89; refine (isNameR_any _ _ (by assumption)).mono ?_; rintro e w' ⟨rfl, rfl⟩)
        | (go_at_call 90; refine (between_any _ _ _ _).mono ?_; rintro e w' ⟨rfl, rfl⟩))
      go_ret
      exact ⟨rfl, HW1.out⟩
    · have g1 : decide (256 < (T.size : Int)) = false := decide_eq_false (by omega)
      have g1' : decide (256 < T.size) = false := decide_eq_false (by omega)
      have gt : (6 : Int) < es.length := by omega
      go_enter Tryz.func44, Tryz.ntmps44
      go_wp2_with (first
        | (go_at_call 89; refine (isNameR_any _ _ (by assumption)).mono ?_; rintro e w' ⟨rfl, rfl⟩)
        | (go_at_call 90; refine (between_any _ _ _ _).mono ?_; rintro e w' ⟨rfl, rfl⟩))
      go_ret
      exact ⟨rfl, HW1.out⟩
    · have g1 : decide (256 < (T.size : Int)) = false := decide_eq_false (by omega)
      have g1' : decide (256 < T.size) = false := decide_eq_false (by omega)
      have g2 : decide (6 < (es.length : Int)) = false := decide_eq_false (by omega)
      have g2' : decide (6 < es.length) = false := decide_eq_false (by omega)
      have gt : (6 : Int) < is.length := by omega
      go_enter Tryz.func44, Tryz.ntmps44
      go_wp2_with (first
        | (go_at_call 89; refine (isNameR_any _ _ (by assumption)).mono ?_; rintro e w' ⟨rfl, rfl⟩)
        | (go_at_call 90; refine (between_any _ _ _ _).mono ?_; rintro e w' ⟨rfl, rfl⟩))
      go_ret
      exact ⟨rfl, HW1.out⟩
    · have g1 : decide (256 < (T.size : Int)) = false := decide_eq_false (by omega)
      have g1' : decide (256 < T.size) = false := decide_eq_false (by omega)
      have g2 : decide (6 < (es.length : Int)) = false := decide_eq_false (by omega)
      have g2' : decide (6 < es.length) = false := decide_eq_false (by omega)
      have g3 : decide (6 < (is.length : Int)) = false := decide_eq_false (by omega)
      have g3' : decide (6 < is.length) = false := decide_eq_false (by omega)
      have gt : (12 : Int) < ps.length := by omega
      go_enter Tryz.func44, Tryz.ntmps44
      go_wp2_with (first
        | (go_at_call 89; refine (isNameR_any _ _ (by assumption)).mono ?_; rintro e w' ⟨rfl, rfl⟩)
        | (go_at_call 90; refine (between_any _ _ _ _).mono ?_; rintro e w' ⟨rfl, rfl⟩))
      go_ret
      exact ⟨rfl, HW1.out⟩
    · have g1 : decide (256 < (T.size : Int)) = false := decide_eq_false (by omega)
      have g1' : decide (256 < T.size) = false := decide_eq_false (by omega)
      have g2 : decide (6 < (es.length : Int)) = false := decide_eq_false (by omega)
      have g2' : decide (6 < es.length) = false := decide_eq_false (by omega)
      have g3 : decide (6 < (is.length : Int)) = false := decide_eq_false (by omega)
      have g3' : decide (6 < is.length) = false := decide_eq_false (by omega)
      have g4 : decide (12 < (ps.length : Int)) = false := decide_eq_false (by omega)
      have g4' : decide (12 < ps.length) = false := decide_eq_false (by omega)
      have h5' : ((T.size : Int) == 0) = true := by rw [beq_iff_eq]; omega
      clear h5
      go_enter Tryz.func44, Tryz.ntmps44
      go_wp2_with (first
        | (go_at_call 89; refine (isNameR_any _ _ (by assumption)).mono ?_; rintro e w' ⟨rfl, rfl⟩)
        | (go_at_call 90; refine (between_any _ _ _ _).mono ?_; rintro e w' ⟨rfl, rfl⟩))
      go_ret
      exact ⟨rfl, HW1.out⟩
    · have g1 : decide (256 < (T.size : Int)) = false := decide_eq_false (by omega)
      have g1' : decide (256 < T.size) = false := decide_eq_false (by omega)
      have g2 : decide (6 < (es.length : Int)) = false := decide_eq_false (by omega)
      have g2' : decide (6 < es.length) = false := decide_eq_false (by omega)
      have g3 : decide (6 < (is.length : Int)) = false := decide_eq_false (by omega)
      have g3' : decide (6 < is.length) = false := decide_eq_false (by omega)
      have g4 : decide (12 < (ps.length : Int)) = false := decide_eq_false (by omega)
      have g4' : decide (12 < ps.length) = false := decide_eq_false (by omega)
      have h5' : ((T.size : Int) == 0) = false := beq_eq_false_iff_ne.2 (by omega)
      have h6' : 0 < (T.size : Int) % 4 := by omega
      clear h5 h6
      go_enter Tryz.func44, Tryz.ntmps44
      go_wp2_with (first
        | (go_at_call 89; refine (isNameR_any _ _ (by assumption)).mono ?_; rintro e w' ⟨rfl, rfl⟩)
        | (go_at_call 90; refine (between_any _ _ _ _).mono ?_; rintro e w' ⟨rfl, rfl⟩))
      go_ret
      exact ⟨rfl, HW1.out⟩
    · have g1 : decide (256 < (T.size : Int)) = false := decide_eq_false (by omega)
      have g1' : decide (256 < T.size) = false := decide_eq_false (by omega)
      have g2 : decide (6 < (es.length : Int)) = false := decide_eq_false (by omega)
      have g2' : decide (6 < es.length) = false := decide_eq_false (by omega)
      have g3 : decide (6 < (is.length : Int)) = false := decide_eq_false (by omega)
      have g3' : decide (6 < is.length) = false := decide_eq_false (by omega)
      have g4 : decide (12 < (ps.length : Int)) = false := decide_eq_false (by omega)
      have g4' : decide (12 < ps.length) = false := decide_eq_false (by omega)
      have h5' : ((T.size : Int) == 0) = false := beq_eq_false_iff_ne.2 (by omega)
      have h6' : decide (0 < (T.size : Int) % 4) = false := decide_eq_false (by omega)
      have h7' : (R != 0) = true := by simpa using h7
      clear h5 h6 h7
      go_enter Tryz.func44, Tryz.ntmps44
      go_wp2_with (first
        | (go_at_call 89; refine (isNameR_any _ _ (by assumption)).mono ?_; rintro e w' ⟨rfl, rfl⟩)
        | (go_at_call 90; refine (between_any _ _ _ _).mono ?_; rintro e w' ⟨rfl, rfl⟩))
      refine (HE.out _ HW1.out k2 k1).mono ?_
      rintro e w1 ⟨rfl, b1⟩
      go_wp2
      go_ret
      exact ⟨rfl, HW1.out.trans (b1.mono HW1.out.size)⟩

end Go.Proofs.YthmohjgdcjafkaeGreat

/- Kernels, modules that are placed, and who is meant, as data. -/
namespace Go.Proofs.YthmohjgdcjafkaeGreat
open Go.RowKit Go.PlainAid

structure Ker where
  major : Int
  minor : Int
  exps : List Exp
structure Plc where
  mod : Mod
  first : Int

/-- What is wrong with a kernel. -/
def chkKer (k : Ker) : Int := if isVer k.major k.minor = false then 3 else if 8 < k.exps.length then 2 else chkExps 4096 [] k.exps
/-- What is wrong with modules that are placed. -/
def chkPls : List Plc → Int
  | [] => 0
  | p :: l => if chkMod p.mod ≠ 0 then chkMod p.mod else if betw p.first 0 15 = false then 3 else chkPls l
def chkPlaced (l : List Plc) : Int := if 8 < l.length then 2 else chkPls l
def chkFind (k : Ker) (l : List Plc) : Int := if chkKer k ≠ 0 then chkKer k else chkPlaced l

/-- What an import may mean: its version, where it begins, its exports. -/
structure Tgt where
  major : Int
  minor : Int
  beg : Int
  exps : List Exp
def tgtOf (k : Ker) (l : List Plc) (name : ByteArray) : Option Tgt :=
  if (name == kernelName) = true then some ⟨k.major, k.minor, 0, k.exps⟩
  else (l.find? fun p => p.mod.name == name).map fun p => ⟨p.mod.major, p.mod.minor, 4096 + p.first * 64, p.mod.exps⟩
def expOf (l : List Exp) (name : ByteArray) : Option Exp := l.find? fun x => x.name == name
/-- Where the import is, and why not. -/
def addrOf (k : Ker) (l : List Plc) (i : Imp) : Int × Int :=
  match tgtOf k l i.mod with
  | none => (0, 5)
  | some t => if t.major ≠ i.major ∨ t.minor < i.minor then (0, 4) else match expOf t.exps i.name with
    | none => (0, 5)
    | some x => (t.beg + x.pos, 0)

theorem expErr_zero {most : Int} {met : List ByteArray} {e : Exp} (h : expErr most met e = 0) : isNm e.name = true ∧ 0 ≤ e.pos ∧ e.pos < most := by
  obtain ⟨n, p⟩ := e
  rcases expErr_cases most met n p with ⟨_, h1⟩ | ⟨_, _, h1⟩ | ⟨_, _, _, h1⟩ | ⟨_, _, _, _, h1⟩ | ⟨h0, _, h1, h2, _⟩
  all_goals first | (rw [h] at h1; exact absurd h1 (by decide)) | exact ⟨h0, h1, h2⟩
theorem chkExps_pos {most : Int} : ∀ {l : List Exp} {met : List ByteArray}, chkExps most met l = 0 → ∀ e ∈ l, isNm e.name = true ∧ 0 ≤ e.pos ∧ e.pos < most
  | [], _, _, e, he => by simp at he
  | x :: l, met, h, e, he => by
    unfold chkExps at h
    by_cases h0 : expErr most met x = 0
    · rw [if_pos h0] at h
      rcases List.mem_cons.1 he with rfl | he
      · exact expErr_zero h0
      · exact chkExps_pos h e he
    · rw [if_neg h0] at h
      exact absurd h h0
theorem chkMod_exps {M : Mod} (h : chkMod M = 0) : (∀ e ∈ M.exps, isNm e.name = true ∧ 0 ≤ e.pos ∧ e.pos < M.text.size) ∧ M.text.size ≤ 256 ∧ M.exps.length ≤ 6 ∧ M.imps.length ≤ 6 ∧ M.pats.length ≤ 12 ∧ isNm M.name = true ∧ (M.name == kernelName) = false := by
  rcases chkMod_cases M with ⟨_, e⟩ | ⟨g1, ⟨_, e⟩ | ⟨g2, ⟨_, e⟩ | ⟨_, ⟨_, e⟩ | ⟨_, t1, t2, t3, t4, ⟨_, e⟩ | ⟨_, ⟨_, e⟩ | ⟨_, ⟨n, e⟩ | ⟨h7, _⟩⟩⟩⟩⟩⟩⟩
  · omega
  · omega
  · omega
  · omega
  · omega
  · omega
  · exact absurd (e ▸ h) n
  · exact ⟨chkExps_pos h7, t1, t2, t3, t4, g1, g2⟩
theorem chkKer_zero {k : Ker} (h : chkKer k = 0) : k.exps.length ≤ 8 ∧ ∀ e ∈ k.exps, isNm e.name = true ∧ 0 ≤ e.pos ∧ e.pos < 4096 := by
  unfold chkKer at h
  split at h
  · omega
  · split at h
    · omega
    · exact ⟨by omega, chkExps_pos h⟩
theorem chkPls_zero : ∀ {l : List Plc}, chkPls l = 0 → ∀ p ∈ l, chkMod p.mod = 0 ∧ 0 ≤ p.first ∧ p.first ≤ 15
  | [], _, p, hp => by simp at hp
  | x :: l, h, p, hp => by
    unfold chkPls at h
    by_cases h0 : chkMod x.mod = 0
    · rw [if_neg (by omega)] at h
      cases hb : betw x.first 0 15
      · rw [hb, if_pos rfl] at h; omega
      · rw [hb, if_neg (by decide)] at h
        rcases List.mem_cons.1 hp with rfl | hp
        · have := betw_iff.1 hb
          exact ⟨h0, this.1, this.2⟩
        · exact chkPls_zero h p hp
    · rw [if_pos h0] at h
      exact absurd h h0
theorem chkFind_zero {k : Ker} {l : List Plc} (h : chkFind k l = 0) : chkKer k = 0 ∧ l.length ≤ 8 ∧ ∀ p ∈ l, chkMod p.mod = 0 ∧ 0 ≤ p.first ∧ p.first ≤ 15 := by
  unfold chkFind at h
  by_cases h0 : chkKer k = 0
  · rw [if_neg (by omega)] at h
    unfold chkPlaced at h
    split at h
    · omega
    · exact ⟨h0, by omega, chkPls_zero h⟩
  · rw [if_pos h0] at h
    exact absurd h h0

/-- A target's exports lie just behind its beginning. -/
theorem tgt_bd {k : Ker} {l : List Plc} {name : ByteArray} {t : Tgt} (h : chkFind k l = 0) (ht : tgtOf k l name = some t) : 0 ≤ t.beg ∧ t.beg ≤ 5056 ∧ t.exps.length ≤ 8 ∧ ∀ e ∈ t.exps, isNm e.name = true ∧ 0 ≤ e.pos ∧ e.pos < 4096 := by
  obtain ⟨hk, hl, hp⟩ := chkFind_zero h
  unfold tgtOf at ht
  split at ht
  · injection ht with ht
    subst ht
    have := chkKer_zero hk
    exact ⟨Int.le_refl 0, show (0 : Int) ≤ 5056 by decide, this.1, this.2⟩
  · cases hf : l.find? fun p => p.mod.name == name with
    | none => rw [hf] at ht; simp at ht
    | some p =>
      rw [hf] at ht
      simp at ht
      subst ht
      obtain ⟨h1, h2, h3⟩ := hp p (List.mem_of_find?_eq_some hf)
      obtain ⟨h4, h5, h6, _⟩ := chkMod_exps h1
      exact ⟨by dsimp only; omega, by dsimp only; omega, by dsimp only; omega, fun e he => by obtain ⟨g1, g2, g3⟩ := h4 e he; exact ⟨g1, g2, by omega⟩⟩

/-- Kernels and rows of placed modules in memory. -/
structure PV where
  mod : Mod
  ve : Value
  vi : Value
  vp : Value
  first : Int
def PV.plc (x : PV) : Plc := ⟨x.mod, x.first⟩
def PV.cell (x : PV) : Nat → Value
  | 0 => .string x.mod.name
  | 1 => .int .i64 x.mod.major
  | 2 => .int .i64 x.mod.minor
  | 3 => .string x.mod.text
  | 4 => x.ve
  | 5 => x.vi
  | 6 => x.vp
  | _ => .int .i64 x.first
def PV.modV (x : PV) : Value := .agg #[.string x.mod.name, .int .i64 x.mod.major, .int .i64 x.mod.minor, .string x.mod.text, x.ve, x.vi, x.vp]
def PV.val (x : PV) : Value := .agg #[.string x.mod.name, .int .i64 x.mod.major, .int .i64 x.mod.minor, .string x.mod.text, x.ve, x.vi, x.vp, .int .i64 x.first]
def PlcAt (n₀ : Nat) (W : World) (x : PV) : Prop := RowOf 2 Exp.cell n₀ W x.ve x.mod.exps ∧ RowOf 4 Imp.cell n₀ W x.vi x.mod.imps ∧ RowOf 4 Pat.cell n₀ W x.vp x.mod.pats
def IsPlcs (n₀ : Nat) (W : World) (v : Value) (l : List PV) : Prop := RowOf 8 PV.cell n₀ W v l ∧ ∀ x ∈ l, PlcAt n₀ W x
def IsKer (n₀ : Nat) (W : World) (v : Value) (k : Ker) : Prop := ∃ ve, v = .agg #[.int .i64 k.major, .int .i64 k.minor, ve] ∧ RowOf 2 Exp.cell n₀ W ve k.exps
def Ker.fits (k : Ker) : Prop := ∀ e ∈ k.exps, e.name.size ≤ 9223372036854775807

theorem PlcAt.below {n₀ : Nat} {W W' : World} {x : PV} (h : PlcAt n₀ W x) (hb : Below n₀ W W') : PlcAt n₀ W' x := ⟨h.1.below hb, h.2.1.below hb, h.2.2.below hb⟩
theorem PlcAt.more {n₀ n₁ : Nat} {W : World} {x : PV} (h : PlcAt n₀ W x) (hn : n₀ ≤ n₁) : PlcAt n₁ W x := ⟨h.1.more hn, h.2.1.more hn, h.2.2.more hn⟩
theorem PlcAt.isMod {n₀ : Nat} {W : World} {x : PV} (h : PlcAt n₀ W x) : IsMod n₀ W x.modV x.mod := ⟨x.ve, x.vi, x.vp, rfl, h.1, h.2.1, h.2.2⟩
theorem IsPlcs.below {n₀ : Nat} {W W' : World} {v : Value} {l : List PV} (h : IsPlcs n₀ W v l) (hb : Below n₀ W W') : IsPlcs n₀ W' v l := ⟨h.1.below hb, fun x hx => (h.2 x hx).below hb⟩
theorem IsPlcs.more {n₀ n₁ : Nat} {W : World} {v : Value} {l : List PV} (h : IsPlcs n₀ W v l) (hn : n₀ ≤ n₁) : IsPlcs n₁ W v l := ⟨h.1.more hn, fun x hx => (h.2 x hx).more hn⟩
theorem IsKer.below {n₀ : Nat} {W W' : World} {v : Value} {k : Ker} (h : IsKer n₀ W v k) (hb : Below n₀ W W') : IsKer n₀ W' v k := by
  obtain ⟨ve, e, h⟩ := h
  exact ⟨ve, e, h.below hb⟩
theorem IsKer.more {n₀ n₁ : Nat} {W : World} {v : Value} {k : Ker} (h : IsKer n₀ W v k) (hn : n₀ ≤ n₁) : IsKer n₁ W v k := by
  obtain ⟨ve, e, h⟩ := h
  exact ⟨ve, e, h.more hn⟩

end Go.Proofs.YthmohjgdcjafkaeGreat

/- The contracts of word.wrongPlace, word.Signed, word.bytesOf and of the function that it hands back. -/
namespace Go.Proofs.YthmohjgdcjafkaeGreat
open Go.RowKit Go.Shelf
attribute [local go_sem] Oper.semAt_some

/-- Why so many bytes from a place on are no number of a text of that length. -/
def wrongAt (len at' bytes : Int) : Int := if bytes < 1 ∨ 4 < bytes then 7 else if at' < 0 ∨ len - bytes < at' then 3 else 0

set_option maxHeartbeats 400000 in
theorem wrongPlace_any (len at' bytes : Int) (w : World) (h0 : 0 ≤ len) (h1 : len ≤ 140737488351232) :
    Calls Tryz.prog 218 #[.int .i64 len, .int .i64 at', .int .i64 bytes] w fun e w' => e = .returned (.int .i64 (wrongAt len at' bytes)) ∧ w' = w := by
  by_cases a : bytes < 1
  · go_enter Tryz.func218, Tryz.ntmps218
    go_wp2
    go_ret
    exact ⟨by simp [wrongAt, a], rfl⟩
  by_cases b : 4 < bytes
  · go_enter Tryz.func218, Tryz.ntmps218
    go_wp2
    go_ret
    exact ⟨by simp [wrongAt, b], rfl⟩
  by_cases c : at' < 0
  · go_enter Tryz.func218, Tryz.ntmps218
    go_wp2
    go_ret
    exact ⟨by simp [wrongAt, a, b, c], rfl⟩
  by_cases d : len - bytes < at'
  · go_enter Tryz.func218, Tryz.ntmps218
    go_wp2
    go_ret
    exact ⟨by simp [wrongAt, a, b, d], rfl⟩
  · go_enter Tryz.func218, Tryz.ntmps218
    go_wp2
    go_ret
    have e : wrongAt len at' bytes = 0 := by unfold wrongAt; rw [if_neg (by omega), if_neg (by omega)]
    exact ⟨by rw [e]; rfl, rfl⟩

theorem two_pow_half (bits : Int) (h1 : 1 ≤ bits) (h2 : bits ≤ 32) : ∃ q : Int, 2 ^ bits.toNat = 2 * q ∧ 1 ≤ q ∧ q ≤ 2147483648 := by
  obtain ⟨k, hk, rfl⟩ : ∃ k : Nat, k ≤ 31 ∧ bits = (k : Int) + 1 := ⟨(bits - 1).toNat, by omega, by omega⟩
  refine ⟨2 ^ k, ?_, Int.pow_pos (by omega), ?_⟩
  · rw [show ((k : Int) + 1).toNat = k + 1 from by omega, Int.pow_succ]; omega
  · have := Nat.pow_le_pow_right (n := 2) (by omega) hk
    have h : ((2 ^ k : Nat) : Int) ≤ ((2 ^ 31 : Nat) : Int) := Int.ofNat_le.2 this
    simpa using h

/-- The signed number, and the error. -/
def signedN (n bits : Int) : Int := if bits < 1 ∨ 32 < bits then 0 else if n < 0 ∨ 2 ^ bits.toNat ≤ n then 0 else if 2 ^ bits.toNat / 2 ≤ n then n - 2 ^ bits.toNat else n
def signedE (n bits : Int) : Int := if bits < 1 ∨ 32 < bits then 7 else if n < 0 ∨ 2 ^ bits.toNat ≤ n then 3 else 0

set_option maxHeartbeats 400000 in
/-- bytesOf boxes its two numbers; what it hands back has captured the boxes. -/
theorem bytesOf_in (F : Fence) (n : Nat) (hF : F.fn 219) (hro : F.round = none) (at' bytes : Int) (w : World) :
    CallsIn F n Tryz.prog 219 #[.int .i64 at', .int .i64 bytes] w fun e w' =>
      e = .returned (.func (.func 224) #[] #[.pointer (some ⟨w.heap.size + 1, 0, none⟩), .pointer (some ⟨w.heap.size, 0, none⟩)]) ∧
      w' = (w.alloc (.cells #[.int .i64 at'] 3)).alloc (.cells #[.int .i64 bytes] 3) := by
  refine callsIn_of_wp Tryz.func219 rfl hF ?_ hro
  simp only [Tryz.ntmps219, List.size_toArray, List.length_cons, List.length_nil, Nat.reduceAdd, Nat.reduceSub, Array.replicate_succ, Array.replicate_zero, List.push_toArray, List.append_toArray, List.nil_append, List.cons_append]
  gi_wp2
  go_ret
  exact ⟨rfl, rfl⟩

/-- What has come when k rounds are over. -/
def upto {α : Type} (f : Nat → α) (k : Nat) : List α := (List.range k).map f
theorem upto_succ {α : Type} (f : Nat → α) (k : Nat) : upto f (k + 1) = upto f k ++ [f k] := by simp [upto, List.range_succ]
theorem upto_length {α : Type} (f : Nat → α) (k : Nat) : (upto f k).length = k := by simp [upto]

/-- The two boxes hold what they held. -/
def KeepsTwo (Ba Bb : Nat) (W W' : World) : Prop := W'.cell? ⟨Ba, 0, none⟩ = W.cell? ⟨Ba, 0, none⟩ ∧ W'.cell? ⟨Bb, 0, none⟩ = W.cell? ⟨Bb, 0, none⟩
theorem KeepsTwo.refl (Ba Bb : Nat) (W : World) : KeepsTwo Ba Bb W W := ⟨rfl, rfl⟩
theorem KeepsTwo.trans {Ba Bb : Nat} {A B C : World} (h : KeepsTwo Ba Bb A B) (k : KeepsTwo Ba Bb B C) : KeepsTwo Ba Bb A C := ⟨k.1.trans h.1, k.2.trans h.2⟩

set_option maxRecDepth 100000 in
set_option maxHeartbeats 1000000 in
/-- bytesOf's function: for i := range bytes: yield(at+i, 8*i). -/
theorem bytesOf1_in (F : Fence) (n : Nat) (hF : F.fn 224) (hro : F.round = none) (hn : 1 ≤ n) (l Ba Bb at' m : Nat) (hm : m ≤ 4) (ha : at' ≤ 140737488351232) (J Jx : List (Fin m) → World → Prop)
    (hY : ∀ pre x W, J pre W → pre.length < m → YieldAt F (n - 1) Tryz.prog l #[.int .i64 ((at' : Int) + (x : Fin m).1), .int .i64 (8 * ((x : Fin m).1 : Int))] W fun e W' =>
      (e = .returned (.bool true) ∧ J (pre ++ [x]) W' ∧ KeepsTwo Ba Bb W W') ∨ (e = .returned (.bool false) ∧ Jx (pre ++ [x]) W'))
    (W : World) (hA : W.cell? ⟨Ba, 0, none⟩ = some (.int .i64 at')) (hB : W.cell? ⟨Bb, 0, none⟩ = some (.int .i64 m)) (h0 : J [] W) :
    CallsIn F n Tryz.prog 224 #[.func (.yield l) #[] #[], .pointer (some ⟨Bb, 0, none⟩), .pointer (some ⟨Ba, 0, none⟩)] W fun e W' => (∃ v, e = .returned v) ∧
      ((∃ ys : List (Fin m), ys.map (·.1) = List.range m ∧ J ys W') ∨ (∃ pre, Jx pre W')) := by
  refine callsIn_of_wp Tryz.func224 rfl hF ?_ hro
  simp only [Tryz.ntmps224, List.size_toArray, List.length_cons, List.length_nil, Nat.reduceAdd, Nat.reduceSub, Array.replicate_succ, Array.replicate_zero, List.push_toArray, List.append_toArray, List.nil_append, List.cons_append]
  gi_wp2
  gi_loopw [6] (fun i wr => ∃ k : Nat, k ≤ m ∧ i = .int .i64 k ∧ (∃ ys : List (Fin m), ys.map (·.1) = List.range k ∧ J ys wr) ∧ KeepsTwo Ba Bb W wr)
    (fun i _ => m - (intOf i).toNat)
  case atStart => exact ⟨0, Nat.zero_le _, rfl, ⟨[], rfl, h0⟩, KeepsTwo.refl _ _ _⟩
  case round =>
    obtain ⟨k, hk, rfl, ⟨ys, hys, hJs⟩, hnx⟩ := hrel
    have hcA : wr.cell? ⟨Ba, 0, none⟩ = some (.int .i64 at') := hnx.1.trans hA
    have hYS : Hid (ys.map (·.1) = List.range k) := hys
    have hylen : ys.length = k := by have := congrArg List.length hys; simpa using this
    clear hys
    by_cases hlt : k < m
    · obtain ⟨fn, tmps, assign, body, hy, hR⟩ := hY ys ⟨k, hlt⟩ wr hJs (by omega)
      dsimp only at hy
      clear hylen
      gi_wp2
      refine hR.mono ?_
      rintro e W3 (⟨rfl, hJ3, hk3⟩ | ⟨rfl, hJx3⟩)
      · gi_wp2
        go_roundw
        case rel => exact ⟨k + 1, by omega, by simp, ⟨ys ++ [⟨k, hlt⟩], by rw [List.map_append, hYS.out, List.range_succ]; rfl, hJ3⟩, hnx.trans hk3⟩
        case measure => simp [intOf]; omega
      · gi_wp2
        refine bodyPost_ret (results_none rfl _ _ _) rfl ?_
        exact ⟨⟨_, rfl⟩, .inr ⟨_, hJx3⟩⟩
    · obtain rfl : k = m := by omega
      clear hylen
      gi_wp2
      go_end0
      exact ⟨⟨_, rfl⟩, .inl ⟨ys, hYS.out, hJs⟩⟩

end Go.Proofs.YthmohjgdcjafkaeGreat

/- The contract of word.Get. -/
namespace Go.Proofs.YthmohjgdcjafkaeGreat
open Go.RowKit Go.Shelf Go.PlainAid
attribute [local go_sem] Oper.semAt_some

theorem bytesOf_stops (F : Fence) (n : Nat) (hF : F.fn 224) (hro : F.round = none) (hn : 1 ≤ n) (Ba Bb at' m : Nat) (hm : m ≤ 4) (ha : at' ≤ 140737488351232) (w : World) (hBa : Ba < w.heap.size) (hBb : Bb < w.heap.size)
    (hA : w.cell? ⟨Ba, 0, none⟩ = some (.int .i64 at')) (hB : w.cell? ⟨Bb, 0, none⟩ = some (.int .i64 m)) :
    SeqStopsK F n Tryz.prog 224 #[.pointer (some ⟨Bb, 0, none⟩), .pointer (some ⟨Ba, 0, none⟩)] (fun x : Fin m => #[Value.int .i64 ((at' : Int) + x.1), Value.int .i64 (8 * (x.1 : Int))]) (KeepsTwo Ba Bb)
      (fun ys => ys.map (·.1) = List.range m) (fun _ => True) m w := fun l J Jx W hW _ _ hY h0 => by
  refine (bytesOf1_in F n hF hro hn l Ba Bb at' m hm ha J Jx hY W ((hW.cell (p := ⟨Ba, 0, none⟩) hBa).trans hA) ((hW.cell (p := ⟨Bb, 0, none⟩) hBb).trans hB) h0).mono ?_
  rintro e W' ⟨he, ⟨ys, hy, hj⟩ | ⟨pre, hj⟩⟩
  · exact ⟨he, .inl ⟨ys, hy, hj⟩⟩
  · exact ⟨he, .inr ⟨pre, trivial, hj⟩⟩

theorem keepsTwo_b {Ba Bb : Nat} {w : World} (ha : Ba < w.heap.size) (hb : Bb < w.heap.size) (W : World) (l : Nat) (o o' : Obj) (hl : w.heap.size ≤ l) (h : W.heap[l]? = some o) (c : o.isCells = false) (d : o.isWalk = false) : KeepsTwo Ba Bb W (W.putObj l o') :=
  have hk := belowK_b (Nat.le_refl _) W l o o' hl h c d
  ⟨hk.cell (p := ⟨Ba, 0, none⟩) ha, hk.cell (p := ⟨Bb, 0, none⟩) hb⟩

theorem keepsTwo_set {Ba Bb B o : Nat} (ha : Ba ≠ B) (hb : Bb ≠ B) (W : World) (v : Value) : KeepsTwo Ba Bb W (W.setCell ⟨B, o, none⟩ v).drew :=
  ⟨World.cell?_of_block (w := W) (Below.heap_setCell _ _ _ _ ha), World.cell?_of_block (w := W) (Below.heap_setCell _ _ _ _ hb)⟩

end Go.Proofs.YthmohjgdcjafkaeGreat
