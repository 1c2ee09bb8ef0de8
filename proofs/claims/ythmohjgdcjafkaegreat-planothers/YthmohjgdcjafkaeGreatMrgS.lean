/- Texts that are laid together. -/
import Derived.Test.YthmohjgdcjafkaeGreatMrgR
import Derived.Test.YthmohjgdcjafkaeGreatMrgQ
import Derived.Test.YthmohjgdcjafkaeGreatMrgH
import Derived.BigQuiet
import Derived.Test.YthmohjgdcjafkaeGreatMrgJ

/- What must be in any case, of compact. -/
namespace Go.Proofs.YthmohjgdcjafkaeGreat
open Go.RowKit Go.PlainAid Go.Lib

set_option maxRecDepth 100000

theorem cpB_s1 : (stepRes pairL).1.map (·.first) = [0, 4] := by kernel_rfl
theorem cpB_s2 : (stepRes pairL).2 = true := by kernel_rfl
theorem cpB_p1 : (packFrom 0 pairL).map (·.first) = [0, 1] := by kernel_rfl
theorem cpB_p2 : offFrom 0 pairL = 2 := by kernel_rfl
theorem firsts_plc {l : List PV} {L : List Plc} {f : List Int} (h : l.map PV.plc = L) (hf : L.map (·.first) = f) : l.map (·.first) = f := by
  rw [← hf, ← h, List.map_map]
  rfl

set_option maxHeartbeats 8000000 in
theorem compactBegun_any (w : World) : Calls Tryz.prog 23 #[] w fun e w' => e = .returned (.bool true) ∧ Below w.heap.size w w' := by
  have HST : Hid (∀ l v W, l.map PV.plc = pairL → IsReg W.heap.size W v kernK l → Calls Tryz.prog 24 #[v] W fun e w' => (∃ ma mi q lk j b off c, e = .returned (.tuple #[.agg #[.int .i64 ma, .int .i64 mi, .slice q lk j, .slice (some ⟨b, off, none⟩) 2 c], .bool true, .int .i64 0]) ∧ b < w'.heap.size ∧ w'.cell? ⟨b, off + 7, none⟩ = some (.int .i64 0) ∧ w'.cell? ⟨b, off + 15, none⟩ = some (.int .i64 4)) ∧ Below W.heap.size W w') := fun l v W hl hR => by
    refine (compStep_any kernK l v W hR kern_fits (pair_fits hl)).mono ?_
    rintro e w' ⟨⟨v', l', rfl, hp, _, ho⟩, hb⟩
    have hi := stepAns_reg hp ho
    have ha : stepAns kernK (l.map PV.plc) = ((kernK, (stepRes pairL).1), (stepRes pairL).2, 0) := by
      unfold stepAns
      rw [hl, if_pos rgB_c]
    rw [ha] at hp hi ⊢
    obtain ⟨ma, mi, q, lk, j, b, off, c, rfl, h1, h2, h3⟩ := row2_form hi (firsts_plc hp cpB_s1)
    dsimp only
    rw [cpB_s2]
    exact ⟨⟨ma, mi, q, lk, j, b, off, c, rfl, h1, h2, h3⟩, hb⟩
  have HPK : Hid (∀ l v W, l.map PV.plc = pairL → IsReg W.heap.size W v kernK l → Calls Tryz.prog 22 #[v] W fun e w' => (∃ ma mi q lk j b off c, e = .returned (.tuple #[.agg #[.int .i64 ma, .int .i64 mi, .slice q lk j, .slice (some ⟨b, off, none⟩) 2 c], .int .i64 2, .int .i64 0]) ∧ b < w'.heap.size ∧ w'.cell? ⟨b, off + 7, none⟩ = some (.int .i64 0) ∧ w'.cell? ⟨b, off + 15, none⟩ = some (.int .i64 1)) ∧ Below W.heap.size W w') := fun l v W hl hR => by
    refine (compPack_any kernK l v W hR kern_fits (pair_fits hl)).mono ?_
    rintro e w' ⟨⟨v', l', rfl, hp, _, ho⟩, hb⟩
    have hi := packAns_reg hp ho
    have ha : packAns kernK (l.map PV.plc) = ((kernK, packFrom 0 pairL), offFrom 0 pairL, 0) := by
      unfold packAns
      rw [hl, if_pos rgB_c]
    rw [ha] at hp hi ⊢
    obtain ⟨ma, mi, q, lk, j, b, off, c, rfl, h1, h2, h3⟩ := row2_form hi (firsts_plc hp cpB_p1)
    dsimp only
    rw [cpB_p2]
    exact ⟨⟨ma, mi, q, lk, j, b, off, c, rfl, h1, h2, h3⟩, hb⟩
  go_enter Tryz.func23, Tryz.ntmps23
  go_wp2_with fail
  refine (reg_any _).mono ?_
  rintro e w1 ⟨v, l, rfl, hl, hR, B⟩
  have HB1 : Hid (Below w.heap.size w w1) := B
  clear B
  go_wp2_with fail
  refine (HST.out l v _ hl hR).mono ?_
  rintro e w2 ⟨⟨ma, mi, q, lk, j, b, off, c, rfl, hb, h7, h15⟩, b2⟩
  have HB2 : Hid (Below w.heap.size w w2) := HB1.out.trans (b2.mono HB1.out.size)
  clear b2 HB1 hl hR HST
  have HB3 : Hid (Below w.heap.size w (w2.alloc (.cells #[.int .i64 ma, .int .i64 mi, .slice q lk j, .slice (some ⟨b, off, none⟩) 2 c] 27))) := HB2.out.alloc HB2.out.size _
  have HC3 : Hid (CellsAt (w2.alloc (.cells #[.int .i64 ma, .int .i64 mi, .slice q lk j, .slice (some ⟨b, off, none⟩) 2 c] 27)) w2.heap.size 27 #[.int .i64 ma, .int .i64 mi, .slice q lk j, .slice (some ⟨b, off, none⟩) 2 c]) := CellsAt.new _ _ _
  have ba : Below w2.heap.size w2 (w2.alloc (.cells #[.int .i64 ma, .int .i64 mi, .slice q lk j, .slice (some ⟨b, off, none⟩) 2 c] 27)) := (Below.refl _ _).alloc (Nat.le_refl _) _
  have H7 : Hid ((w2.alloc (.cells #[.int .i64 ma, .int .i64 mi, .slice q lk j, .slice (some ⟨b, off, none⟩) 2 c] 27)).cell? ⟨b, off + 7, none⟩ = some (.int .i64 0)) := (ba.cell (p := ⟨b, off + 7, none⟩) hb).trans h7
  have H15 : Hid ((w2.alloc (.cells #[.int .i64 ma, .int .i64 mi, .slice q lk j, .slice (some ⟨b, off, none⟩) 2 c] 27)).cell? ⟨b, off + 15, none⟩ = some (.int .i64 4)) := (ba.cell (p := ⟨b, off + 15, none⟩) hb).trans h15
  have HBL : Hid (b < w2.heap.size) := hb
  clear hb h7 h15 ba HB2
  go_wp2_with fail
  refine (reg_any _).mono ?_
  have hsz : w2.heap.size < (w2.alloc (.cells #[.int .i64 ma, .int .i64 mi, .slice q lk j, .slice (some ⟨b, off, none⟩) 2 c] 27)).heap.size := HC3.out.lt
  generalize (w2.alloc (.cells #[.int .i64 ma, .int .i64 mi, .slice q lk j, .slice (some ⟨b, off, none⟩) 2 c] 27)) = w3 at *
  generalize w2.heap.size = g2 at *
  rintro e w4 ⟨v, l, rfl, hl, hR, b4⟩
  have hbl := HBL.out
  have HB4 : Hid (Below w.heap.size w w4) := HB3.out.trans (b4.mono HB3.out.size)
  have HC4 : Hid (CellsAt w4 g2 27 #[.int .i64 ma, .int .i64 mi, .slice q lk j, .slice (some ⟨b, off, none⟩) 2 c]) := HC3.out.below b4 HC3.out.lt
  have I7 : Hid (w4.cell? ⟨b, off + 7, none⟩ = some (.int .i64 0)) := (b4.cell (p := ⟨b, off + 7, none⟩) (show b < _ by omega)).trans H7.out
  have I15 : Hid (w4.cell? ⟨b, off + 15, none⟩ = some (.int .i64 4)) := (b4.cell (p := ⟨b, off + 15, none⟩) (show b < _ by omega)).trans H15.out
  clear b4 H7 H15 HC3 HB3 hsz
  go_wp2_with fail
  refine (HPK.out l v _ hl hR).mono ?_
  rintro e w5 ⟨⟨ma', mi', q', lk', j', b', off', c', rfl, hb', h7', h15'⟩, b5⟩
  have hl4 := HC4.out.lt
  have HB5 : Hid (Below w.heap.size w w5) := HB4.out.trans (b5.mono HB4.out.size)
  have HC5 : Hid (CellsAt w5 g2 27 #[.int .i64 ma, .int .i64 mi, .slice q lk j, .slice (some ⟨b, off, none⟩) 2 c]) := HC4.out.below b5 HC4.out.lt
  have J7 : Hid (w5.cell? ⟨b, off + 7, none⟩ = some (.int .i64 0)) := (b5.cell (p := ⟨b, off + 7, none⟩) (show b < _ by omega)).trans I7.out
  have J15 : Hid (w5.cell? ⟨b, off + 15, none⟩ = some (.int .i64 4)) := (b5.cell (p := ⟨b, off + 15, none⟩) (show b < _ by omega)).trans I15.out
  clear b5 I7 I15 HC4 HB4 hl hR HPK
  have hl5 := HC5.out.lt
  have HB6 : Hid (Below w.heap.size w (w5.alloc (.cells #[.int .i64 ma', .int .i64 mi', .slice q' lk' j', .slice (some ⟨b', off', none⟩) 2 c'] 27))) := HB5.out.alloc HB5.out.size _
  have HD6 : Hid (CellsAt (w5.alloc (.cells #[.int .i64 ma', .int .i64 mi', .slice q' lk' j', .slice (some ⟨b', off', none⟩) 2 c'] 27)) w5.heap.size 27 #[.int .i64 ma', .int .i64 mi', .slice q' lk' j', .slice (some ⟨b', off', none⟩) 2 c']) := CellsAt.new _ _ _
  have ba : Below w5.heap.size w5 (w5.alloc (.cells #[.int .i64 ma', .int .i64 mi', .slice q' lk' j', .slice (some ⟨b', off', none⟩) 2 c'] 27)) := (Below.refl _ _).alloc (Nat.le_refl _) _
  have HC6 : Hid (CellsAt (w5.alloc (.cells #[.int .i64 ma', .int .i64 mi', .slice q' lk' j', .slice (some ⟨b', off', none⟩) 2 c'] 27)) g2 27 #[.int .i64 ma, .int .i64 mi, .slice q lk j, .slice (some ⟨b, off, none⟩) 2 c]) := HC5.out.below ba HC5.out.lt
  have K7 := (ba.cell (p := ⟨b, off + 7, none⟩) (show b < _ by omega)).trans J7.out
  have K15 := (ba.cell (p := ⟨b, off + 15, none⟩) (show b < _ by omega)).trans J15.out
  have L15 := (ba.cell (p := ⟨b', off' + 15, none⟩) hb').trans h15'
  clear hb' h7' h15' J7 J15 HC5 HB5 ba hl4 hl5 hbl HBL
  go_upto_region 3 with fail
  generalize (w5.alloc (.cells #[.int .i64 ma', .int .i64 mi', .slice q' lk' j', .slice (some ⟨b', off', none⟩) 2 c'] 27)) = w6 at *
  generalize w5.heap.size = g5 at *
  have c1 := CellsAt.cell HC6.out 3
  have cl := CellsAt.lt HC6.out
  have d1 := CellsAt.cell HD6.out 3
  have dl := CellsAt.lt HD6.out
  simp at c1 d1
  go_wp2
  go_ret
  exact ⟨rfl, HB6.out⟩

end Go.Proofs.YthmohjgdcjafkaeGreat

/- What must be in any case, of plans. Printed by genplo.py. -/
namespace Go.Proofs.YthmohjgdcjafkaeGreat
open Go.RowKit Go.PlainAid Go.Lib

set_option maxRecDepth 100000

theorem row1_form {n : Nat} {W : World} {v : Value} {K : Ker} {l : List PV} {k : Nat} (h : IsReg n W v K l) (hl : l.length = k) : ∃ ma mi q lk j a c, v = .agg #[.int .i64 ma, .int .i64 mi, .slice q lk j, .slice a k c] := by
  obtain ⟨q, j, a, c, e⟩ := h.shape0
  exact ⟨_, _, q, _, j, a, c, by rw [e, hl]⟩
theorem rowN_form {n : Nat} {W : World} {v : Value} {K : Ker} {l : List PV} {p : Plc} {r : List Plc} (h : IsReg n W v K l) (hf : l.map PV.plc = p :: r) : ∃ ma mi q lk j b off c, v = .agg #[.int .i64 ma, .int .i64 mi, .slice q lk j, .slice (some ⟨b, off, none⟩) (r.length + 1) c] ∧ b < n ∧ W.cell? ⟨b, off, none⟩ = some (.string p.mod.name) := by
  obtain ⟨ve, vl, rfl, ⟨q, j, rfl, _, _⟩, ⟨⟨a, c, rfl, _, hc⟩, _⟩⟩ := h
  cases l with
  | nil => cases hf
  | cons x l =>
    injection hf with h1 h2
    have hl : (x :: l).length = r.length + 1 := by rw [← h2, List.length_map, List.length_cons]
    rcases hc with h | ⟨b, off, rfl, hb, hc⟩
    · cases h
    · have h0 := hc 0 x rfl 0 (by omega)
      refine ⟨_, _, _, _, _, b, off, c, by rw [hl], hb, ?_⟩
      rw [← h1]
      exact h0
theorem row2_minor {n : Nat} {W : World} {v : Value} {K : Ker} {l : List PV} {p p' : Plc} (h : IsReg n W v K l) (hf : l.map PV.plc = [p, p']) : ∃ ma mi q lk j b off c, v = .agg #[.int .i64 ma, .int .i64 mi, .slice q lk j, .slice (some ⟨b, off, none⟩) 2 c] ∧ b < n ∧ W.cell? ⟨b, off + 15, none⟩ = some (.int .i64 p'.first) ∧ W.cell? ⟨b, off + 10, none⟩ = some (.int .i64 p'.mod.minor) := by
  obtain ⟨ve, vl, rfl, ⟨q, j, rfl, _, _⟩, ⟨⟨a, c, rfl, _, hc⟩, _⟩⟩ := h
  match l, hf, hc with
  | [x, y], hf, hc =>
    injection hf with h1 h2
    injection h2 with h2 _
    rcases hc with h | ⟨b, off, rfl, hb, hc⟩
    · cases h
    · have h0 := hc 1 y rfl 7 (by omega)
      have h3 := hc 1 y rfl 2 (by omega)
      refine ⟨_, _, _, _, _, b, off, c, rfl, hb, ?_, ?_⟩
      · rw [← h2]
        have e : off + 1 * 8 + 7 = off + 15 := by omega
        rw [e] at h0
        exact h0
      · rw [← h2]
        have e : off + 1 * 8 + 2 = off + 10 := by omega
        rw [e] at h3
        exact h3

theorem zreg_no {W : World} {B k : Nat} {t : TypeId} (h : CellsAt W B t #[.int .i64 0, .int .i64 0, .slice none 0 0, .slice none 0 0]) (hk : 4 ≤ k) : W.cell? ⟨B, k, none⟩ = none := by
  rw [h.cell k]
  exact Array.getElem?_eq_none (by simpa using hk)

set_option maxHeartbeats 16000000 in
theorem planBegun_any (w : World) : Calls Tryz.prog 16 #[] w fun e w' => e = .returned (.bool true) ∧ Below w.heap.size w w' := by
  have HIN : Hid (∀ l v vm W, l.map PV.plc = pairL → IsReg W.heap.size W v kernK l → IsMod W.heap.size W vm extraM → Calls Tryz.prog 9 #[v, vm] W fun e w' => (∃ ma mi q lk j b off c, e = .returned (.tuple #[.agg #[.int .i64 ma, .int .i64 mi, .slice q lk j, .slice (some ⟨b, off, none⟩) 3 c], .int .i64 0]) ∧ b < w'.heap.size ∧ w'.cell? ⟨b, off, none⟩ = some (.string ⟨#[101, 120, 116, 114, 97]⟩)) ∧ Below W.heap.size W w') := fun l v vm W hl hR hM => by
    refine (plInstall_any kernK l v extraM vm W hR kern_fits (pair_fits hl) hM extra_fits).mono ?_
    rintro e w' ⟨⟨v', l', rfl, hp, _, ho⟩, hb⟩
    have hi := planRes_reg hp ho
    rw [hl, plB_i] at hp hi ⊢
    obtain ⟨ma, mi, q, lk, j, b, off, c, rfl, h1, h2⟩ := rowN_form hi hp
    exact ⟨⟨ma, mi, q, lk, j, b, off, c, rfl, h1, h2⟩, hb⟩
  have HRA : Hid (∀ l v W, l.map PV.plc = pairL → IsReg W.heap.size W v kernK l → Calls Tryz.prog 10 #[v, .string ⟨#[97, 112, 112]⟩] W fun e w' => (∃ ma mi q lk j a c, e = .returned (.tuple #[.agg #[.int .i64 ma, .int .i64 mi, .slice q lk j, .slice a 1 c], .int .i64 0])) ∧ Below W.heap.size W w') := fun l v W hl hR => by
    refine (plRemove_any kernK l v appN W hR kern_fits (pair_fits hl)).mono ?_
    rintro e w' ⟨⟨v', l', rfl, hp, _, ho⟩, hb⟩
    have hi := planRes_reg hp ho
    rw [hl, plB_r] at hp hi ⊢
    have hln : l'.length = 1 := by have := congrArg List.length hp; rw [List.length_map] at this; exact this
    obtain ⟨ma, mi, q, lk, j, a, c, rfl⟩ := row1_form hi hln
    exact ⟨⟨ma, mi, q, lk, j, a, c, rfl⟩, hb⟩
  have HRL : Hid (∀ l v W, l.map PV.plc = pairL → IsReg W.heap.size W v kernK l → Calls Tryz.prog 10 #[v, .string ⟨#[108, 105, 98]⟩] W fun e w' => (∃ ma mi q lk j a la c, e = .returned (.tuple #[.agg #[.int .i64 ma, .int .i64 mi, .slice q lk j, .slice a la c], .int .i64 4])) ∧ Below W.heap.size W w') := fun l v W hl hR => by
    refine (plRemove_any kernK l v libN W hR kern_fits (pair_fits hl)).mono ?_
    rintro e w' ⟨⟨v', l', rfl, hp, _, ho⟩, hb⟩
    have hi := planRes_reg hp ho
    rw [hl, plB_s] at hp hi ⊢
    obtain ⟨ma, mi, q, lk, j, a, c, rfl⟩ := row1_form hi rfl
    exact ⟨⟨ma, mi, q, lk, j, a, _, c, rfl⟩, hb⟩
  have HUP : Hid (∀ l v vm W, l.map PV.plc = pairL → IsReg W.heap.size W v kernK l → IsMod W.heap.size W vm lib9M → Calls Tryz.prog 11 #[v, vm] W fun e w' => (∃ ma mi q lk j b off c, e = .returned (.tuple #[.agg #[.int .i64 ma, .int .i64 mi, .slice q lk j, .slice (some ⟨b, off, none⟩) 2 c], .int .i64 0]) ∧ b < w'.heap.size ∧ w'.cell? ⟨b, off + 15, none⟩ = some (.int .i64 4) ∧ w'.cell? ⟨b, off + 10, none⟩ = some (.int .i64 9)) ∧ Below W.heap.size W w') := fun l v vm W hl hR hM => by
    refine (plUpgrade_any kernK l v lib9M vm W hR kern_fits (pair_fits hl) hM lib9_fits).mono ?_
    rintro e w' ⟨⟨v', l', rfl, hp, _, ho⟩, hb⟩
    have hi := planRes_reg hp ho
    rw [hl, plB_u] at hp hi ⊢
    obtain ⟨ma, mi, q, lk, j, b, off, c, rfl, h1, h2, h3⟩ := row2_minor hi hp
    exact ⟨⟨ma, mi, q, lk, j, b, off, c, rfl, h1, h2, h3⟩, hb⟩
  have HB0 : Hid (Below w.heap.size w w) := Below.refl _ _
  go_enter Tryz.func16, Tryz.ntmps16
  go_wp2_with fail
  refine (reg_any _).mono ?_
  rintro e w1 ⟨v1, l1, rfl, hl1, hR1, b1⟩
  have HB1 : Hid (Below w.heap.size w w1) := HB0.out.trans (b1.mono HB0.out.size)
  clear HB0
  clear b1
  go_wp2_with fail
  refine (extra_any _).mono ?_
  rintro e w2 ⟨rfl, b2⟩
  replace hR1 := (hR1.below b2).more b2.size
  have HB2 : Hid (Below w.heap.size w w2) := HB1.out.trans (b2.mono HB1.out.size)
  clear HB1
  clear b2
  go_wp2_with fail
  refine (HIN.out l1 v1 _ _ hl1 hR1 (extra_isMod _ _)).mono ?_
  rintro e w3 ⟨⟨ma, mi, q, lk, j, b, off, c, rfl, hb1, h0⟩, b3⟩
  have HB3 : Hid (Below w.heap.size w w3) := HB2.out.trans (b3.mono HB2.out.size)
  clear HB2
  have HF0 : Hid (w3.cell? ⟨b, off, none⟩ = some (.string ⟨#[101, 120, 116, 114, 97]⟩) ∧ (⟨b, off, none⟩ : Addr).block < w3.heap.size) := ⟨h0, hb1⟩
  clear b3 HIN hl1 hR1 h0 hb1
  have ba : Below w3.heap.size w3 (w3.alloc (.cells #[.int .i64 ma, .int .i64 mi, .slice q lk j, .slice (some ⟨b, off, none⟩) 3 c] 27)) := (Below.refl _ _).alloc (Nat.le_refl _) _
  have olw_gA : w.heap.size ≤ w3.heap.size := HB3.out.size
  have HB4 : Hid (Below w.heap.size w (w3.alloc (.cells #[.int .i64 ma, .int .i64 mi, .slice q lk j, .slice (some ⟨b, off, none⟩) 3 c] 27))) := HB3.out.trans (ba.mono HB3.out.size)
  have HF4_0 : Hid ((w3.alloc (.cells #[.int .i64 ma, .int .i64 mi, .slice q lk j, .slice (some ⟨b, off, none⟩) 3 c] 27)).cell? ⟨b, off, none⟩ = some (.string ⟨#[101, 120, 116, 114, 97]⟩) ∧ (⟨b, off, none⟩ : Addr).block < (w3.alloc (.cells #[.int .i64 ma, .int .i64 mi, .slice q lk j, .slice (some ⟨b, off, none⟩) 3 c] 27)).heap.size) := ⟨(ba.cell (p := ⟨b, off, none⟩) HF0.out.2).trans HF0.out.1, Nat.lt_of_lt_of_le HF0.out.2 ba.size⟩
  clear HB3 HF0
  clear ba
  have HC5 : Hid (CellsAt (w3.alloc (.cells #[.int .i64 ma, .int .i64 mi, .slice q lk j, .slice (some ⟨b, off, none⟩) 3 c] 27)) w3.heap.size 27 #[.int .i64 ma, .int .i64 mi, .slice q lk j, .slice (some ⟨b, off, none⟩) 3 c]) := CellsAt.new _ _ _
  go_upto_region 2 with fail
  generalize (w3.alloc (.cells #[.int .i64 ma, .int .i64 mi, .slice q lk j, .slice (some ⟨b, off, none⟩) 3 c] 27)) = w4 at *
  generalize w3.heap.size = gA at *
  go_wp2_with fail
  refine (reg_any _).mono ?_
  rintro e w5 ⟨v2, l2, rfl, hl2, hR2, b2⟩
  have HB6 : Hid (Below w.heap.size w w5) := HB4.out.trans (b2.mono HB4.out.size)
  have HC6_0 : Hid (CellsAt w5 gA 27 #[.int .i64 ma, .int .i64 mi, .slice q lk j, .slice (some ⟨b, off, none⟩) 3 c]) := HC5.out.below b2 HC5.out.lt
  have HF6_0 : Hid (w5.cell? ⟨b, off, none⟩ = some (.string ⟨#[101, 120, 116, 114, 97]⟩) ∧ (⟨b, off, none⟩ : Addr).block < w5.heap.size) := ⟨(b2.cell (p := ⟨b, off, none⟩) HF4_0.out.2).trans HF4_0.out.1, Nat.lt_of_lt_of_le HF4_0.out.2 b2.size⟩
  clear HB4 HC5 HF4_0
  clear b2
  go_wp2_with fail
  refine (HRA.out l2 v2 _ hl2 hR2).mono ?_
  rintro e w6 ⟨⟨mb, nb, qb, kb, jb, xb, cb, rfl⟩, b6⟩
  have HB7 : Hid (Below w.heap.size w w6) := HB6.out.trans (b6.mono HB6.out.size)
  have HC7_0 : Hid (CellsAt w6 gA 27 #[.int .i64 ma, .int .i64 mi, .slice q lk j, .slice (some ⟨b, off, none⟩) 3 c]) := HC6_0.out.below b6 HC6_0.out.lt
  have HF7_0 : Hid (w6.cell? ⟨b, off, none⟩ = some (.string ⟨#[101, 120, 116, 114, 97]⟩) ∧ (⟨b, off, none⟩ : Addr).block < w6.heap.size) := ⟨(b6.cell (p := ⟨b, off, none⟩) HF6_0.out.2).trans HF6_0.out.1, Nat.lt_of_lt_of_le HF6_0.out.2 b6.size⟩
  clear HB6 HC6_0 HF6_0
  clear b6 HRA hl2 hR2
  have ba : Below w6.heap.size w6 (w6.alloc (.cells #[.int .i64 mb, .int .i64 nb, .slice qb kb jb, .slice xb 1 cb] 27)) := (Below.refl _ _).alloc (Nat.le_refl _) _
  have ol_gA_gB : gA < w6.heap.size := CellsAt.lt HC7_0.out
  have olw_gB : w.heap.size ≤ w6.heap.size := HB7.out.size
  have HB8 : Hid (Below w.heap.size w (w6.alloc (.cells #[.int .i64 mb, .int .i64 nb, .slice qb kb jb, .slice xb 1 cb] 27))) := HB7.out.trans (ba.mono HB7.out.size)
  have HC8_0 : Hid (CellsAt (w6.alloc (.cells #[.int .i64 mb, .int .i64 nb, .slice qb kb jb, .slice xb 1 cb] 27)) gA 27 #[.int .i64 ma, .int .i64 mi, .slice q lk j, .slice (some ⟨b, off, none⟩) 3 c]) := HC7_0.out.below ba HC7_0.out.lt
  have HF8_0 : Hid ((w6.alloc (.cells #[.int .i64 mb, .int .i64 nb, .slice qb kb jb, .slice xb 1 cb] 27)).cell? ⟨b, off, none⟩ = some (.string ⟨#[101, 120, 116, 114, 97]⟩) ∧ (⟨b, off, none⟩ : Addr).block < (w6.alloc (.cells #[.int .i64 mb, .int .i64 nb, .slice qb kb jb, .slice xb 1 cb] 27)).heap.size) := ⟨(ba.cell (p := ⟨b, off, none⟩) HF7_0.out.2).trans HF7_0.out.1, Nat.lt_of_lt_of_le HF7_0.out.2 ba.size⟩
  clear HB7 HC7_0 HF7_0
  clear ba
  have HC9 : Hid (CellsAt (w6.alloc (.cells #[.int .i64 mb, .int .i64 nb, .slice qb kb jb, .slice xb 1 cb] 27)) w6.heap.size 27 #[.int .i64 mb, .int .i64 nb, .slice qb kb jb, .slice xb 1 cb]) := CellsAt.new _ _ _
  go_upto_region 3 with fail
  generalize (w6.alloc (.cells #[.int .i64 mb, .int .i64 nb, .slice qb kb jb, .slice xb 1 cb] 27)) = w7 at *
  generalize w6.heap.size = gB at *
  go_wp2_with fail
  refine (reg_any _).mono ?_
  rintro e w8 ⟨v3, l3, rfl, hl3, hR3, b3⟩
  have HB10 : Hid (Below w.heap.size w w8) := HB8.out.trans (b3.mono HB8.out.size)
  have HC10_0 : Hid (CellsAt w8 gA 27 #[.int .i64 ma, .int .i64 mi, .slice q lk j, .slice (some ⟨b, off, none⟩) 3 c]) := HC8_0.out.below b3 HC8_0.out.lt
  have HC10_1 : Hid (CellsAt w8 gB 27 #[.int .i64 mb, .int .i64 nb, .slice qb kb jb, .slice xb 1 cb]) := HC9.out.below b3 HC9.out.lt
  have HF10_0 : Hid (w8.cell? ⟨b, off, none⟩ = some (.string ⟨#[101, 120, 116, 114, 97]⟩) ∧ (⟨b, off, none⟩ : Addr).block < w8.heap.size) := ⟨(b3.cell (p := ⟨b, off, none⟩) HF8_0.out.2).trans HF8_0.out.1, Nat.lt_of_lt_of_le HF8_0.out.2 b3.size⟩
  clear HB8 HC8_0 HC9 HF8_0
  clear b3
  go_wp2_with fail
  refine (HRL.out l3 v3 _ hl3 hR3).mono ?_
  rintro e w9 ⟨⟨ms, ns, qs, ks, js, xs, ls, cs, rfl⟩, b9⟩
  have HB11 : Hid (Below w.heap.size w w9) := HB10.out.trans (b9.mono HB10.out.size)
  have HC11_0 : Hid (CellsAt w9 gA 27 #[.int .i64 ma, .int .i64 mi, .slice q lk j, .slice (some ⟨b, off, none⟩) 3 c]) := HC10_0.out.below b9 HC10_0.out.lt
  have HC11_1 : Hid (CellsAt w9 gB 27 #[.int .i64 mb, .int .i64 nb, .slice qb kb jb, .slice xb 1 cb]) := HC10_1.out.below b9 HC10_1.out.lt
  have HF11_0 : Hid (w9.cell? ⟨b, off, none⟩ = some (.string ⟨#[101, 120, 116, 114, 97]⟩) ∧ (⟨b, off, none⟩ : Addr).block < w9.heap.size) := ⟨(b9.cell (p := ⟨b, off, none⟩) HF10_0.out.2).trans HF10_0.out.1, Nat.lt_of_lt_of_le HF10_0.out.2 b9.size⟩
  clear HB10 HC10_0 HC10_1 HF10_0
  clear b9 HRL hl3 hR3
  have ba : Below w9.heap.size w9 (w9.alloc (.cells #[.int .i64 ms, .int .i64 ns, .slice qs ks js, .slice xs ls cs] 27)) := (Below.refl _ _).alloc (Nat.le_refl _) _
  have ol_gA_gS : gA < w9.heap.size := CellsAt.lt HC11_0.out
  have ol_gB_gS : gB < w9.heap.size := CellsAt.lt HC11_1.out
  have olw_gS : w.heap.size ≤ w9.heap.size := HB11.out.size
  have HB12 : Hid (Below w.heap.size w (w9.alloc (.cells #[.int .i64 ms, .int .i64 ns, .slice qs ks js, .slice xs ls cs] 27))) := HB11.out.trans (ba.mono HB11.out.size)
  have HC12_0 : Hid (CellsAt (w9.alloc (.cells #[.int .i64 ms, .int .i64 ns, .slice qs ks js, .slice xs ls cs] 27)) gA 27 #[.int .i64 ma, .int .i64 mi, .slice q lk j, .slice (some ⟨b, off, none⟩) 3 c]) := HC11_0.out.below ba HC11_0.out.lt
  have HC12_1 : Hid (CellsAt (w9.alloc (.cells #[.int .i64 ms, .int .i64 ns, .slice qs ks js, .slice xs ls cs] 27)) gB 27 #[.int .i64 mb, .int .i64 nb, .slice qb kb jb, .slice xb 1 cb]) := HC11_1.out.below ba HC11_1.out.lt
  have HF12_0 : Hid ((w9.alloc (.cells #[.int .i64 ms, .int .i64 ns, .slice qs ks js, .slice xs ls cs] 27)).cell? ⟨b, off, none⟩ = some (.string ⟨#[101, 120, 116, 114, 97]⟩) ∧ (⟨b, off, none⟩ : Addr).block < (w9.alloc (.cells #[.int .i64 ms, .int .i64 ns, .slice qs ks js, .slice xs ls cs] 27)).heap.size) := ⟨(ba.cell (p := ⟨b, off, none⟩) HF11_0.out.2).trans HF11_0.out.1, Nat.lt_of_lt_of_le HF11_0.out.2 ba.size⟩
  clear HB11 HC11_0 HC11_1 HF11_0
  clear ba
  have HC13 : Hid (CellsAt (w9.alloc (.cells #[.int .i64 ms, .int .i64 ns, .slice qs ks js, .slice xs ls cs] 27)) w9.heap.size 27 #[.int .i64 ms, .int .i64 ns, .slice qs ks js, .slice xs ls cs]) := CellsAt.new _ _ _
  go_upto_region 4 with fail
  generalize (w9.alloc (.cells #[.int .i64 ms, .int .i64 ns, .slice qs ks js, .slice xs ls cs] 27)) = w10 at *
  generalize w9.heap.size = gS at *
  go_wp2_with fail
  refine (lib_any _).mono ?_
  rintro e w11 ⟨le, lke, rfl, hM, b11⟩
  have HB14 : Hid (Below w.heap.size w w11) := HB12.out.trans (b11.mono HB12.out.size)
  have HC14_0 : Hid (CellsAt w11 gA 27 #[.int .i64 ma, .int .i64 mi, .slice q lk j, .slice (some ⟨b, off, none⟩) 3 c]) := HC12_0.out.below b11 HC12_0.out.lt
  have HC14_1 : Hid (CellsAt w11 gB 27 #[.int .i64 mb, .int .i64 nb, .slice qb kb jb, .slice xb 1 cb]) := HC12_1.out.below b11 HC12_1.out.lt
  have HC14_2 : Hid (CellsAt w11 gS 27 #[.int .i64 ms, .int .i64 ns, .slice qs ks js, .slice xs ls cs]) := HC13.out.below b11 HC13.out.lt
  have HF14_0 : Hid (w11.cell? ⟨b, off, none⟩ = some (.string ⟨#[101, 120, 116, 114, 97]⟩) ∧ (⟨b, off, none⟩ : Addr).block < w11.heap.size) := ⟨(b11.cell (p := ⟨b, off, none⟩) HF12_0.out.2).trans HF12_0.out.1, Nat.lt_of_lt_of_le HF12_0.out.2 b11.size⟩
  clear HB12 HC12_0 HC12_1 HC13 HF12_0
  have HM11 : Hid (IsMod w11.heap.size w11 (.agg #[.string ⟨#[108, 105, 98]⟩, .int .i64 1, .int .i64 2, .string ⟨#[97, 98, 99, 100, 101, 102, 103, 104]⟩, .slice le 1 lke, .slice none 0 0, .slice none 0 0]) libM) := hM
  clear b11 hM
  have ba : Below w11.heap.size w11 (w11.alloc (.cells #[.string ⟨#[108, 105, 98]⟩, .int .i64 1, .int .i64 9, .string ⟨#[97, 98, 99, 100, 101, 102, 103, 104]⟩, .slice le 1 lke, .slice none 0 0, .slice none 0 0] 31)) := (Below.refl _ _).alloc (Nat.le_refl _) _
  have ol_gA_gM : gA < w11.heap.size := CellsAt.lt HC14_0.out
  have ol_gB_gM : gB < w11.heap.size := CellsAt.lt HC14_1.out
  have ol_gS_gM : gS < w11.heap.size := CellsAt.lt HC14_2.out
  have olw_gM : w.heap.size ≤ w11.heap.size := HB14.out.size
  have HB15 : Hid (Below w.heap.size w (w11.alloc (.cells #[.string ⟨#[108, 105, 98]⟩, .int .i64 1, .int .i64 9, .string ⟨#[97, 98, 99, 100, 101, 102, 103, 104]⟩, .slice le 1 lke, .slice none 0 0, .slice none 0 0] 31))) := HB14.out.trans (ba.mono HB14.out.size)
  have HC15_0 : Hid (CellsAt (w11.alloc (.cells #[.string ⟨#[108, 105, 98]⟩, .int .i64 1, .int .i64 9, .string ⟨#[97, 98, 99, 100, 101, 102, 103, 104]⟩, .slice le 1 lke, .slice none 0 0, .slice none 0 0] 31)) gA 27 #[.int .i64 ma, .int .i64 mi, .slice q lk j, .slice (some ⟨b, off, none⟩) 3 c]) := HC14_0.out.below ba HC14_0.out.lt
  have HC15_1 : Hid (CellsAt (w11.alloc (.cells #[.string ⟨#[108, 105, 98]⟩, .int .i64 1, .int .i64 9, .string ⟨#[97, 98, 99, 100, 101, 102, 103, 104]⟩, .slice le 1 lke, .slice none 0 0, .slice none 0 0] 31)) gB 27 #[.int .i64 mb, .int .i64 nb, .slice qb kb jb, .slice xb 1 cb]) := HC14_1.out.below ba HC14_1.out.lt
  have HC15_2 : Hid (CellsAt (w11.alloc (.cells #[.string ⟨#[108, 105, 98]⟩, .int .i64 1, .int .i64 9, .string ⟨#[97, 98, 99, 100, 101, 102, 103, 104]⟩, .slice le 1 lke, .slice none 0 0, .slice none 0 0] 31)) gS 27 #[.int .i64 ms, .int .i64 ns, .slice qs ks js, .slice xs ls cs]) := HC14_2.out.below ba HC14_2.out.lt
  have HF15_0 : Hid ((w11.alloc (.cells #[.string ⟨#[108, 105, 98]⟩, .int .i64 1, .int .i64 9, .string ⟨#[97, 98, 99, 100, 101, 102, 103, 104]⟩, .slice le 1 lke, .slice none 0 0, .slice none 0 0] 31)).cell? ⟨b, off, none⟩ = some (.string ⟨#[101, 120, 116, 114, 97]⟩) ∧ (⟨b, off, none⟩ : Addr).block < (w11.alloc (.cells #[.string ⟨#[108, 105, 98]⟩, .int .i64 1, .int .i64 9, .string ⟨#[97, 98, 99, 100, 101, 102, 103, 104]⟩, .slice le 1 lke, .slice none 0 0, .slice none 0 0] 31)).heap.size) := ⟨(ba.cell (p := ⟨b, off, none⟩) HF14_0.out.2).trans HF14_0.out.1, Nat.lt_of_lt_of_le HF14_0.out.2 ba.size⟩
  clear HB14 HC14_0 HC14_1 HC14_2 HF14_0
  clear ba
  have HC16 : Hid (CellsAt (w11.alloc (.cells #[.string ⟨#[108, 105, 98]⟩, .int .i64 1, .int .i64 9, .string ⟨#[97, 98, 99, 100, 101, 102, 103, 104]⟩, .slice le 1 lke, .slice none 0 0, .slice none 0 0] 31)) w11.heap.size 31 #[.string ⟨#[108, 105, 98]⟩, .int .i64 1, .int .i64 9, .string ⟨#[97, 98, 99, 100, 101, 102, 103, 104]⟩, .slice le 1 lke, .slice none 0 0, .slice none 0 0]) := CellsAt.new _ _ _
  have HM12 : Hid (IsMod (w11.alloc (.cells #[.string ⟨#[108, 105, 98]⟩, .int .i64 1, .int .i64 9, .string ⟨#[97, 98, 99, 100, 101, 102, 103, 104]⟩, .slice le 1 lke, .slice none 0 0, .slice none 0 0] 31)).heap.size (w11.alloc (.cells #[.string ⟨#[108, 105, 98]⟩, .int .i64 1, .int .i64 9, .string ⟨#[97, 98, 99, 100, 101, 102, 103, 104]⟩, .slice le 1 lke, .slice none 0 0, .slice none 0 0] 31)) (.agg #[.string ⟨#[108, 105, 98]⟩, .int .i64 1, .int .i64 9, .string ⟨#[97, 98, 99, 100, 101, 102, 103, 104]⟩, .slice le 1 lke, .slice none 0 0, .slice none 0 0]) lib9M) := by
    have hbm : Below w11.heap.size w11 (w11.alloc (.cells #[.string ⟨#[108, 105, 98]⟩, .int .i64 1, .int .i64 9, .string ⟨#[97, 98, 99, 100, 101, 102, 103, 104]⟩, .slice le 1 lke, .slice none 0 0, .slice none 0 0] 31)) := (Below.refl _ _).alloc (Nat.le_refl _) _
    obtain ⟨me, mi9, mp, e, h1, h2, h3⟩ := HM11.out
    injection e with e
    have e := congrArg Array.toList e
    simp at e
    obtain ⟨-, -, -, -, rfl, rfl, rfl⟩ := e
    exact ⟨_, _, _, rfl, (h1.below hbm).more hbm.size, ⟨_, _, rfl, by decide, .inl rfl⟩, ⟨_, _, rfl, by decide, .inl rfl⟩⟩
  clear HM11
  go_upto_region 6 with fail
  refine wp_region_noPanic ?_
  refine wp_region_L (S := fun w' => CellsAt w' w11.heap.size 31 #[.string ⟨#[108, 105, 98]⟩, .int .i64 1, .int .i64 9, .string ⟨#[97, 98, 99, 100, 101, 102, 103, 104]⟩, .slice le 1 lke, .slice none 0 0, .slice none 0 0]) (x := 8) (by kernel_rfl) ?_
  have HBd : Hid (Below w.heap.size w (w11.alloc (.cells #[.string ⟨#[108, 105, 98]⟩, .int .i64 1, .int .i64 9, .string ⟨#[97, 98, 99, 100, 101, 102, 103, 104]⟩, .slice le 1 lke, .slice none 0 0, .slice none 0 0] 31)).drew) := HB15.out.drew
  have HCd_0 : Hid (CellsAt (w11.alloc (.cells #[.string ⟨#[108, 105, 98]⟩, .int .i64 1, .int .i64 9, .string ⟨#[97, 98, 99, 100, 101, 102, 103, 104]⟩, .slice le 1 lke, .slice none 0 0, .slice none 0 0] 31)).drew gA 27 #[.int .i64 ma, .int .i64 mi, .slice q lk j, .slice (some ⟨b, off, none⟩) 3 c]) := (HC15_0.out : CellsAt (w11.alloc (.cells #[.string ⟨#[108, 105, 98]⟩, .int .i64 1, .int .i64 9, .string ⟨#[97, 98, 99, 100, 101, 102, 103, 104]⟩, .slice le 1 lke, .slice none 0 0, .slice none 0 0] 31)) _ _ _)
  have HCd_1 : Hid (CellsAt (w11.alloc (.cells #[.string ⟨#[108, 105, 98]⟩, .int .i64 1, .int .i64 9, .string ⟨#[97, 98, 99, 100, 101, 102, 103, 104]⟩, .slice le 1 lke, .slice none 0 0, .slice none 0 0] 31)).drew gB 27 #[.int .i64 mb, .int .i64 nb, .slice qb kb jb, .slice xb 1 cb]) := (HC15_1.out : CellsAt (w11.alloc (.cells #[.string ⟨#[108, 105, 98]⟩, .int .i64 1, .int .i64 9, .string ⟨#[97, 98, 99, 100, 101, 102, 103, 104]⟩, .slice le 1 lke, .slice none 0 0, .slice none 0 0] 31)) _ _ _)
  have HCd_2 : Hid (CellsAt (w11.alloc (.cells #[.string ⟨#[108, 105, 98]⟩, .int .i64 1, .int .i64 9, .string ⟨#[97, 98, 99, 100, 101, 102, 103, 104]⟩, .slice le 1 lke, .slice none 0 0, .slice none 0 0] 31)).drew gS 27 #[.int .i64 ms, .int .i64 ns, .slice qs ks js, .slice xs ls cs]) := (HC15_2.out : CellsAt (w11.alloc (.cells #[.string ⟨#[108, 105, 98]⟩, .int .i64 1, .int .i64 9, .string ⟨#[97, 98, 99, 100, 101, 102, 103, 104]⟩, .slice le 1 lke, .slice none 0 0, .slice none 0 0] 31)) _ _ _)
  have HCd_3 : Hid (CellsAt (w11.alloc (.cells #[.string ⟨#[108, 105, 98]⟩, .int .i64 1, .int .i64 9, .string ⟨#[97, 98, 99, 100, 101, 102, 103, 104]⟩, .slice le 1 lke, .slice none 0 0, .slice none 0 0] 31)).drew w11.heap.size 31 #[.string ⟨#[108, 105, 98]⟩, .int .i64 1, .int .i64 9, .string ⟨#[97, 98, 99, 100, 101, 102, 103, 104]⟩, .slice le 1 lke, .slice none 0 0, .slice none 0 0]) := (HC16.out : CellsAt (w11.alloc (.cells #[.string ⟨#[108, 105, 98]⟩, .int .i64 1, .int .i64 9, .string ⟨#[97, 98, 99, 100, 101, 102, 103, 104]⟩, .slice le 1 lke, .slice none 0 0, .slice none 0 0] 31)) _ _ _)
  have HFd_0 : Hid ((w11.alloc (.cells #[.string ⟨#[108, 105, 98]⟩, .int .i64 1, .int .i64 9, .string ⟨#[97, 98, 99, 100, 101, 102, 103, 104]⟩, .slice le 1 lke, .slice none 0 0, .slice none 0 0] 31)).drew.cell? ⟨b, off, none⟩ = some (.string ⟨#[101, 120, 116, 114, 97]⟩) ∧ (⟨b, off, none⟩ : Addr).block < (w11.alloc (.cells #[.string ⟨#[108, 105, 98]⟩, .int .i64 1, .int .i64 9, .string ⟨#[97, 98, 99, 100, 101, 102, 103, 104]⟩, .slice le 1 lke, .slice none 0 0, .slice none 0 0] 31)).drew.heap.size) := (HF15_0.out : (w11.alloc (.cells #[.string ⟨#[108, 105, 98]⟩, .int .i64 1, .int .i64 9, .string ⟨#[97, 98, 99, 100, 101, 102, 103, 104]⟩, .slice le 1 lke, .slice none 0 0, .slice none 0 0] 31)).cell? _ = _ ∧ _)
  have HMd : Hid (IsMod (w11.alloc (.cells #[.string ⟨#[108, 105, 98]⟩, .int .i64 1, .int .i64 9, .string ⟨#[97, 98, 99, 100, 101, 102, 103, 104]⟩, .slice le 1 lke, .slice none 0 0, .slice none 0 0] 31)).drew.heap.size (w11.alloc (.cells #[.string ⟨#[108, 105, 98]⟩, .int .i64 1, .int .i64 9, .string ⟨#[97, 98, 99, 100, 101, 102, 103, 104]⟩, .slice le 1 lke, .slice none 0 0, .slice none 0 0] 31)).drew (.agg #[.string ⟨#[108, 105, 98]⟩, .int .i64 1, .int .i64 9, .string ⟨#[97, 98, 99, 100, 101, 102, 103, 104]⟩, .slice le 1 lke, .slice none 0 0, .slice none 0 0]) lib9M) := HM12.out.below (n₀ := (w11.alloc (.cells #[.string ⟨#[108, 105, 98]⟩, .int .i64 1, .int .i64 9, .string ⟨#[97, 98, 99, 100, 101, 102, 103, 104]⟩, .slice le 1 lke, .slice none 0 0, .slice none 0 0] 31)).heap.size) ((Below.refl _ _).drew)
  clear HB15 HC15_0 HC15_1 HC15_2 HC16 HF15_0 HM12
  generalize (w11.alloc (.cells #[.string ⟨#[108, 105, 98]⟩, .int .i64 1, .int .i64 9, .string ⟨#[97, 98, 99, 100, 101, 102, 103, 104]⟩, .slice le 1 lke, .slice none 0 0, .slice none 0 0] 31)).drew = w12 at *
  generalize w11.heap.size = gM at *
  refine wpL_take 1 30 (.agg #[.string ⟨#[108, 105, 98]⟩, .int .i64 1, .int .i64 9, .string ⟨#[97, 98, 99, 100, 101, 102, 103, 104]⟩, .slice le 1 lke, .slice none 0 0, .slice none 0 0]) rfl (by kernel_rfl) (fun _ _ _ h => h) HCd_3.out rfl rfl (fun w' hSw => by have q0 := CellsAt.cell hSw 0; have q1 := CellsAt.cell hSw 1; have q2 := CellsAt.cell hSw 2; have q3 := CellsAt.cell hSw 3; have q4 := CellsAt.cell hSw 4; have q5 := CellsAt.cell hSw 5; have q6 := CellsAt.cell hSw 6; simp at q0 q1 q2 q3 q4 q5 q6; clear hSw; go_simp) ?_
  simp only [List.setIfInBounds_toArray, List.set_cons_zero, List.set_cons_succ]
  refine wpL_two (i := 0) (j := 6) rfl rfl (by kernel_rfl) (fun Kq hK => ?_) (fun Kq hK => ?_)
  · go_simp
    refine (reg_any _).mono ?_
    rintro e wrA ⟨v4, l4, rfl, hl4, hR4, br⟩
    have HB18 : Hid (Below w.heap.size w wrA) := HBd.out.trans (br.mono HBd.out.size)
    have HC18_0 : Hid (CellsAt wrA gA 27 #[.int .i64 ma, .int .i64 mi, .slice q lk j, .slice (some ⟨b, off, none⟩) 3 c]) := HCd_0.out.below br HCd_0.out.lt
    have HC18_1 : Hid (CellsAt wrA gB 27 #[.int .i64 mb, .int .i64 nb, .slice qb kb jb, .slice xb 1 cb]) := HCd_1.out.below br HCd_1.out.lt
    have HC18_2 : Hid (CellsAt wrA gS 27 #[.int .i64 ms, .int .i64 ns, .slice qs ks js, .slice xs ls cs]) := HCd_2.out.below br HCd_2.out.lt
    have HC18_3 : Hid (CellsAt wrA gM 31 #[.string ⟨#[108, 105, 98]⟩, .int .i64 1, .int .i64 9, .string ⟨#[97, 98, 99, 100, 101, 102, 103, 104]⟩, .slice le 1 lke, .slice none 0 0, .slice none 0 0]) := HCd_3.out.below br HCd_3.out.lt
    have HF18_0 : Hid (wrA.cell? ⟨b, off, none⟩ = some (.string ⟨#[101, 120, 116, 114, 97]⟩) ∧ (⟨b, off, none⟩ : Addr).block < wrA.heap.size) := ⟨(br.cell (p := ⟨b, off, none⟩) HFd_0.out.2).trans HFd_0.out.1, Nat.lt_of_lt_of_le HFd_0.out.2 br.size⟩
    clear HBd HCd_0 HCd_1 HCd_2 HCd_3 HFd_0
    have HMrA : Hid (IsMod wrA.heap.size wrA (.agg #[.string ⟨#[108, 105, 98]⟩, .int .i64 1, .int .i64 9, .string ⟨#[97, 98, 99, 100, 101, 102, 103, 104]⟩, .slice le 1 lke, .slice none 0 0, .slice none 0 0]) lib9M) := (HMd.out.below br).more br.size
    have HRrA : Hid (IsReg wrA.heap.size wrA v4 kernK l4) := hR4
    have HLr : Hid (l4.map PV.plc = pairL) := hl4
    clear br hR4 hl4 HMd
    go_simp
    refine hK.out _ _ HC18_3.out (fun _ => ?_)
    clear hK Kq
    refine wpL_two (i := 2) (j := 6) rfl rfl (by kernel_rfl) (fun Kq hK => ?_) (fun Kq hK => ?_)
    · go_simp
      refine (HUP.out l4 v4 _ _ HLr.out HRrA.out HMrA.out).mono ?_
      rintro e wuA ⟨⟨mu, nu, qu, ku, ju, bu, ou, cu, rfl, hbu, hu15, hu10⟩, bu4⟩
      have HB19 : Hid (Below w.heap.size w wuA) := HB18.out.trans (bu4.mono HB18.out.size)
      have HC19_0 : Hid (CellsAt wuA gA 27 #[.int .i64 ma, .int .i64 mi, .slice q lk j, .slice (some ⟨b, off, none⟩) 3 c]) := HC18_0.out.below bu4 HC18_0.out.lt
      have HC19_1 : Hid (CellsAt wuA gB 27 #[.int .i64 mb, .int .i64 nb, .slice qb kb jb, .slice xb 1 cb]) := HC18_1.out.below bu4 HC18_1.out.lt
      have HC19_2 : Hid (CellsAt wuA gS 27 #[.int .i64 ms, .int .i64 ns, .slice qs ks js, .slice xs ls cs]) := HC18_2.out.below bu4 HC18_2.out.lt
      have HC19_3 : Hid (CellsAt wuA gM 31 #[.string ⟨#[108, 105, 98]⟩, .int .i64 1, .int .i64 9, .string ⟨#[97, 98, 99, 100, 101, 102, 103, 104]⟩, .slice le 1 lke, .slice none 0 0, .slice none 0 0]) := HC18_3.out.below bu4 HC18_3.out.lt
      have HF19_0 : Hid (wuA.cell? ⟨b, off, none⟩ = some (.string ⟨#[101, 120, 116, 114, 97]⟩) ∧ (⟨b, off, none⟩ : Addr).block < wuA.heap.size) := ⟨(bu4.cell (p := ⟨b, off, none⟩) HF18_0.out.2).trans HF18_0.out.1, Nat.lt_of_lt_of_le HF18_0.out.2 bu4.size⟩
      clear HB18 HC18_0 HC18_1 HC18_2 HC18_3 HF18_0
      have HU15 : Hid (wuA.cell? ⟨bu, ou + 15, none⟩ = some (.int .i64 4) ∧ (⟨bu, ou + 15, none⟩ : Addr).block < wuA.heap.size) := ⟨hu15, hbu⟩
      have HU10 : Hid (wuA.cell? ⟨bu, ou + 10, none⟩ = some (.int .i64 9) ∧ (⟨bu, ou + 10, none⟩ : Addr).block < wuA.heap.size) := ⟨hu10, hbu⟩
      clear bu4 hu15 hu10 hbu HUP HLr HRrA HMrA
      go_simp
      refine hK.out _ _ HC19_3.out (fun _ => ?_)
      clear hK Kq
      refine wpL_take 3 28 (.tuple #[.agg #[.int .i64 mu, .int .i64 nu, .slice qu ku ju, .slice (some ⟨bu, ou, none⟩) 2 cu], .int .i64 0]) rfl (by kernel_rfl) (fun _ _ _ h => h) HC19_3.out rfl rfl (fun w' hSw => by clear hSw; go_simp) ?_
      simp only [List.setIfInBounds_toArray, List.set_cons_zero, List.set_cons_succ]
      refine wpL_take 4 32 (.agg #[.int .i64 mu, .int .i64 nu, .slice qu ku ju, .slice (some ⟨bu, ou, none⟩) 2 cu]) rfl (by kernel_rfl) (fun _ _ _ h => h) HC19_3.out rfl rfl (fun w' hSw => by clear hSw; go_simp) ?_
      simp only [List.setIfInBounds_toArray, List.set_cons_zero, List.set_cons_succ]
      refine wpL_take 5 33 (.int .i64 0) rfl (by kernel_rfl) (fun _ _ _ h => h) HC19_3.out rfl rfl (fun w' hSw => by clear hSw; go_simp) ?_
      simp only [List.setIfInBounds_toArray, List.set_cons_zero, List.set_cons_succ]
      refine wpL_step (i := 6) rfl (by kernel_rfl) (fun Kq hK => ?_)
      go_simp
      have ba : Below wuA.heap.size wuA (wuA.alloc (.cells #[.int .i64 0, .int .i64 0, .slice none 0 0, .slice none 0 0] 27)) := (Below.refl _ _).alloc (Nat.le_refl _) _
      have ol_gA_gU : gA < wuA.heap.size := CellsAt.lt HC19_0.out
      have ol_gB_gU : gB < wuA.heap.size := CellsAt.lt HC19_1.out
      have ol_gS_gU : gS < wuA.heap.size := CellsAt.lt HC19_2.out
      have ol_gM_gU : gM < wuA.heap.size := CellsAt.lt HC19_3.out
      have olw_gU : w.heap.size ≤ wuA.heap.size := HB19.out.size
      have HB20 : Hid (Below w.heap.size w (wuA.alloc (.cells #[.int .i64 0, .int .i64 0, .slice none 0 0, .slice none 0 0] 27))) := HB19.out.trans (ba.mono HB19.out.size)
      have HC20_0 : Hid (CellsAt (wuA.alloc (.cells #[.int .i64 0, .int .i64 0, .slice none 0 0, .slice none 0 0] 27)) gA 27 #[.int .i64 ma, .int .i64 mi, .slice q lk j, .slice (some ⟨b, off, none⟩) 3 c]) := HC19_0.out.below ba HC19_0.out.lt
      have HC20_1 : Hid (CellsAt (wuA.alloc (.cells #[.int .i64 0, .int .i64 0, .slice none 0 0, .slice none 0 0] 27)) gB 27 #[.int .i64 mb, .int .i64 nb, .slice qb kb jb, .slice xb 1 cb]) := HC19_1.out.below ba HC19_1.out.lt
      have HC20_2 : Hid (CellsAt (wuA.alloc (.cells #[.int .i64 0, .int .i64 0, .slice none 0 0, .slice none 0 0] 27)) gS 27 #[.int .i64 ms, .int .i64 ns, .slice qs ks js, .slice xs ls cs]) := HC19_2.out.below ba HC19_2.out.lt
      have HC20_3 : Hid (CellsAt (wuA.alloc (.cells #[.int .i64 0, .int .i64 0, .slice none 0 0, .slice none 0 0] 27)) gM 31 #[.string ⟨#[108, 105, 98]⟩, .int .i64 1, .int .i64 9, .string ⟨#[97, 98, 99, 100, 101, 102, 103, 104]⟩, .slice le 1 lke, .slice none 0 0, .slice none 0 0]) := HC19_3.out.below ba HC19_3.out.lt
      have HF20_0 : Hid ((wuA.alloc (.cells #[.int .i64 0, .int .i64 0, .slice none 0 0, .slice none 0 0] 27)).cell? ⟨b, off, none⟩ = some (.string ⟨#[101, 120, 116, 114, 97]⟩) ∧ (⟨b, off, none⟩ : Addr).block < (wuA.alloc (.cells #[.int .i64 0, .int .i64 0, .slice none 0 0, .slice none 0 0] 27)).heap.size) := ⟨(ba.cell (p := ⟨b, off, none⟩) HF19_0.out.2).trans HF19_0.out.1, Nat.lt_of_lt_of_le HF19_0.out.2 ba.size⟩
      have HF20_1 : Hid ((wuA.alloc (.cells #[.int .i64 0, .int .i64 0, .slice none 0 0, .slice none 0 0] 27)).cell? ⟨bu, ou + 15, none⟩ = some (.int .i64 4) ∧ (⟨bu, ou + 15, none⟩ : Addr).block < (wuA.alloc (.cells #[.int .i64 0, .int .i64 0, .slice none 0 0, .slice none 0 0] 27)).heap.size) := ⟨(ba.cell (p := ⟨bu, ou + 15, none⟩) HU15.out.2).trans HU15.out.1, Nat.lt_of_lt_of_le HU15.out.2 ba.size⟩
      have HF20_2 : Hid ((wuA.alloc (.cells #[.int .i64 0, .int .i64 0, .slice none 0 0, .slice none 0 0] 27)).cell? ⟨bu, ou + 10, none⟩ = some (.int .i64 9) ∧ (⟨bu, ou + 10, none⟩ : Addr).block < (wuA.alloc (.cells #[.int .i64 0, .int .i64 0, .slice none 0 0, .slice none 0 0] 27)).heap.size) := ⟨(ba.cell (p := ⟨bu, ou + 10, none⟩) HU10.out.2).trans HU10.out.1, Nat.lt_of_lt_of_le HU10.out.2 ba.size⟩
      clear HB19 HC19_0 HC19_1 HC19_2 HC19_3 HF19_0 HU15 HU10
      clear ba
      have HC21 : Hid (CellsAt (wuA.alloc (.cells #[.int .i64 0, .int .i64 0, .slice none 0 0, .slice none 0 0] 27)) wuA.heap.size 27 #[.int .i64 0, .int .i64 0, .slice none 0 0, .slice none 0 0]) := CellsAt.new _ _ _
      refine hK.out _ _ HC20_3.out (fun _ => ?_)
      clear hK Kq
      generalize (wuA.alloc (.cells #[.int .i64 0, .int .i64 0, .slice none 0 0, .slice none 0 0] 27)) = waA at *
      generalize wuA.heap.size = gU at *
      have z0 := CellsAt.cell HC21.out 0
      have f0 := CellsAt.frozen HC21.out 0
      have z1 := CellsAt.cell HC21.out 1
      have f1 := CellsAt.frozen HC21.out 1
      have z2 := CellsAt.cell HC21.out 2
      have f2 := CellsAt.frozen HC21.out 2
      have z3 := CellsAt.cell HC21.out 3
      have f3 := CellsAt.frozen HC21.out 3
      have zl := CellsAt.lt HC21.out
      simp at z0 z1 z2 z3
      refine wpL_step (i := 7) rfl (by kernel_rfl) (fun Kq hK => ?_)
      go_simp
      have hG := sets4_grown waA gU (.int .i64 mu) (.int .i64 nu) (.slice qu ku ju) (.slice (some ⟨bu, ou, none⟩) 2 cu)
      have HBz : Hid (Below w.heap.size w ((((waA.setCell ⟨gU, 0, none⟩ (.int .i64 mu)).setCell ⟨gU, 1, none⟩ (.int .i64 nu)).setCell ⟨gU, 2, none⟩ (.slice qu ku ju)).setCell ⟨gU, 3, none⟩ (.slice (some ⟨bu, ou, none⟩) 2 cu))) := HB20.out.grown hG HB20.out.size (fun q hq => by obtain rfl := Option.some.inj hq; omega)
      have hne0 : (some (⟨b, off, none⟩ : Addr).block : Option Nat) ≠ some gU := by
        intro e
        have e : b = gU := Option.some.inj e
        subst e
        exact (zreg_cells HC21.out off).1 _ HF20_0.out.1
      have HFz_0 : Hid (((((waA.setCell ⟨gU, 0, none⟩ (.int .i64 mu)).setCell ⟨gU, 1, none⟩ (.int .i64 nu)).setCell ⟨gU, 2, none⟩ (.slice qu ku ju)).setCell ⟨gU, 3, none⟩ (.slice (some ⟨bu, ou, none⟩) 2 cu)).cell? ⟨b, off, none⟩ = some (.string ⟨#[101, 120, 116, 114, 97]⟩) ∧ (⟨b, off, none⟩ : Addr).block < ((((waA.setCell ⟨gU, 0, none⟩ (.int .i64 mu)).setCell ⟨gU, 1, none⟩ (.int .i64 nu)).setCell ⟨gU, 2, none⟩ (.slice qu ku ju)).setCell ⟨gU, 3, none⟩ (.slice (some ⟨bu, ou, none⟩) 2 cu)).heap.size) := ⟨hG.cell HF20_0.out.1 hne0, Nat.lt_of_lt_of_le HF20_0.out.2 hG.size⟩
      clear hne0
      have hne1 : (some (⟨bu, ou + 15, none⟩ : Addr).block : Option Nat) ≠ some gU := by
        intro e
        have e : bu = gU := Option.some.inj e
        subst e
        have h1 := HF20_1.out.1
        rw [zreg_no HC21.out (by omega)] at h1
        cases h1
      have HFz_1 : Hid (((((waA.setCell ⟨gU, 0, none⟩ (.int .i64 mu)).setCell ⟨gU, 1, none⟩ (.int .i64 nu)).setCell ⟨gU, 2, none⟩ (.slice qu ku ju)).setCell ⟨gU, 3, none⟩ (.slice (some ⟨bu, ou, none⟩) 2 cu)).cell? ⟨bu, ou + 15, none⟩ = some (.int .i64 4) ∧ (⟨bu, ou + 15, none⟩ : Addr).block < ((((waA.setCell ⟨gU, 0, none⟩ (.int .i64 mu)).setCell ⟨gU, 1, none⟩ (.int .i64 nu)).setCell ⟨gU, 2, none⟩ (.slice qu ku ju)).setCell ⟨gU, 3, none⟩ (.slice (some ⟨bu, ou, none⟩) 2 cu)).heap.size) := ⟨hG.cell HF20_1.out.1 hne1, Nat.lt_of_lt_of_le HF20_1.out.2 hG.size⟩
      clear hne1
      have hne2 : (some (⟨bu, ou + 10, none⟩ : Addr).block : Option Nat) ≠ some gU := by
        intro e
        have e : bu = gU := Option.some.inj e
        subst e
        have h1 := HF20_2.out.1
        rw [zreg_no HC21.out (by omega)] at h1
        cases h1
      have HFz_2 : Hid (((((waA.setCell ⟨gU, 0, none⟩ (.int .i64 mu)).setCell ⟨gU, 1, none⟩ (.int .i64 nu)).setCell ⟨gU, 2, none⟩ (.slice qu ku ju)).setCell ⟨gU, 3, none⟩ (.slice (some ⟨bu, ou, none⟩) 2 cu)).cell? ⟨bu, ou + 10, none⟩ = some (.int .i64 9) ∧ (⟨bu, ou + 10, none⟩ : Addr).block < ((((waA.setCell ⟨gU, 0, none⟩ (.int .i64 mu)).setCell ⟨gU, 1, none⟩ (.int .i64 nu)).setCell ⟨gU, 2, none⟩ (.slice qu ku ju)).setCell ⟨gU, 3, none⟩ (.slice (some ⟨bu, ou, none⟩) 2 cu)).heap.size) := ⟨hG.cell HF20_2.out.1 hne2, Nat.lt_of_lt_of_le HF20_2.out.2 hG.size⟩
      clear hne2
      have HCz_0 : Hid (CellsAt ((((waA.setCell ⟨gU, 0, none⟩ (.int .i64 mu)).setCell ⟨gU, 1, none⟩ (.int .i64 nu)).setCell ⟨gU, 2, none⟩ (.slice qu ku ju)).setCell ⟨gU, 3, none⟩ (.slice (some ⟨bu, ou, none⟩) 2 cu)) gA 27 #[.int .i64 ma, .int .i64 mi, .slice q lk j, .slice (some ⟨b, off, none⟩) 3 c]) := HC20_0.out.kept hG (by intro e; have := Option.some.inj e; omega)
      have HCz_1 : Hid (CellsAt ((((waA.setCell ⟨gU, 0, none⟩ (.int .i64 mu)).setCell ⟨gU, 1, none⟩ (.int .i64 nu)).setCell ⟨gU, 2, none⟩ (.slice qu ku ju)).setCell ⟨gU, 3, none⟩ (.slice (some ⟨bu, ou, none⟩) 2 cu)) gB 27 #[.int .i64 mb, .int .i64 nb, .slice qb kb jb, .slice xb 1 cb]) := HC20_1.out.kept hG (by intro e; have := Option.some.inj e; omega)
      have HCz_2 : Hid (CellsAt ((((waA.setCell ⟨gU, 0, none⟩ (.int .i64 mu)).setCell ⟨gU, 1, none⟩ (.int .i64 nu)).setCell ⟨gU, 2, none⟩ (.slice qu ku ju)).setCell ⟨gU, 3, none⟩ (.slice (some ⟨bu, ou, none⟩) 2 cu)) gS 27 #[.int .i64 ms, .int .i64 ns, .slice qs ks js, .slice xs ls cs]) := HC20_2.out.kept hG (by intro e; have := Option.some.inj e; omega)
      have HCz_3 : Hid (CellsAt ((((waA.setCell ⟨gU, 0, none⟩ (.int .i64 mu)).setCell ⟨gU, 1, none⟩ (.int .i64 nu)).setCell ⟨gU, 2, none⟩ (.slice qu ku ju)).setCell ⟨gU, 3, none⟩ (.slice (some ⟨bu, ou, none⟩) 2 cu)) gM 31 #[.string ⟨#[108, 105, 98]⟩, .int .i64 1, .int .i64 9, .string ⟨#[97, 98, 99, 100, 101, 102, 103, 104]⟩, .slice le 1 lke, .slice none 0 0, .slice none 0 0]) := HC20_3.out.kept hG (by intro e; have := Option.some.inj e; omega)
      have HCz_4 : Hid (CellsAt ((((waA.setCell ⟨gU, 0, none⟩ (.int .i64 mu)).setCell ⟨gU, 1, none⟩ (.int .i64 nu)).setCell ⟨gU, 2, none⟩ (.slice qu ku ju)).setCell ⟨gU, 3, none⟩ (.slice (some ⟨bu, ou, none⟩) 2 cu)) gU 27 #[.int .i64 mu, .int .i64 nu, .slice qu ku ju, .slice (some ⟨bu, ou, none⟩) 2 cu]) := sets4 HC21.out _ _ _ _
      clear hG z0 z1 z2 z3 f0 f1 f2 f3 zl HB20 HF20_0 HF20_1 HF20_2 HC20_0 HC20_1 HC20_2 HC20_3 HC21
      refine hK.out _ _ HCz_3.out (fun _ => ?_)
      clear hK Kq
      generalize ((((waA.setCell ⟨gU, 0, none⟩ (.int .i64 mu)).setCell ⟨gU, 1, none⟩ (.int .i64 nu)).setCell ⟨gU, 2, none⟩ (.slice qu ku ju)).setCell ⟨gU, 3, none⟩ (.slice (some ⟨bu, ou, none⟩) 2 cu)) = wz at *
      refine wpL_last (x := 8) rfl (by kernel_rfl) (by kernel_rfl) (fun Kq hK => ?_)
      go_simp
      refine hK.out _ _ ?_
      refine NoPanic.normal ?_
      clear hK Kq
      have ygA := CellsAt.cell HCz_0.out 3
      have ylgA := CellsAt.lt HCz_0.out
      have ygB := CellsAt.cell HCz_1.out 3
      have ylgB := CellsAt.lt HCz_1.out
      have ygU := CellsAt.cell HCz_4.out 3
      have ylgU := CellsAt.lt HCz_4.out
      simp at ygA ygB ygU
      obtain ⟨x0, xl0⟩ := HFz_0.out
      obtain ⟨x1, xl1⟩ := HFz_1.out
      obtain ⟨x2, xl2⟩ := HFz_2.out
      dsimp only at xl0 xl1 xl2
      go_wp2
      go_ret
      exact ⟨rfl, HBz.out⟩
    · go_simp
      have ba : Below wrA.heap.size wrA (wrA.alloc (.cells #[.int .i64 0, .int .i64 0, .slice none 0 0, .slice none 0 0] 27)) := (Below.refl _ _).alloc (Nat.le_refl _) _
      have ol_gA_gU : gA < wrA.heap.size := CellsAt.lt HC18_0.out
      have ol_gB_gU : gB < wrA.heap.size := CellsAt.lt HC18_1.out
      have ol_gS_gU : gS < wrA.heap.size := CellsAt.lt HC18_2.out
      have ol_gM_gU : gM < wrA.heap.size := CellsAt.lt HC18_3.out
      have olw_gU : w.heap.size ≤ wrA.heap.size := HB18.out.size
      have HB19 : Hid (Below w.heap.size w (wrA.alloc (.cells #[.int .i64 0, .int .i64 0, .slice none 0 0, .slice none 0 0] 27))) := HB18.out.trans (ba.mono HB18.out.size)
      have HC19_0 : Hid (CellsAt (wrA.alloc (.cells #[.int .i64 0, .int .i64 0, .slice none 0 0, .slice none 0 0] 27)) gA 27 #[.int .i64 ma, .int .i64 mi, .slice q lk j, .slice (some ⟨b, off, none⟩) 3 c]) := HC18_0.out.below ba HC18_0.out.lt
      have HC19_1 : Hid (CellsAt (wrA.alloc (.cells #[.int .i64 0, .int .i64 0, .slice none 0 0, .slice none 0 0] 27)) gB 27 #[.int .i64 mb, .int .i64 nb, .slice qb kb jb, .slice xb 1 cb]) := HC18_1.out.below ba HC18_1.out.lt
      have HC19_2 : Hid (CellsAt (wrA.alloc (.cells #[.int .i64 0, .int .i64 0, .slice none 0 0, .slice none 0 0] 27)) gS 27 #[.int .i64 ms, .int .i64 ns, .slice qs ks js, .slice xs ls cs]) := HC18_2.out.below ba HC18_2.out.lt
      have HC19_3 : Hid (CellsAt (wrA.alloc (.cells #[.int .i64 0, .int .i64 0, .slice none 0 0, .slice none 0 0] 27)) gM 31 #[.string ⟨#[108, 105, 98]⟩, .int .i64 1, .int .i64 9, .string ⟨#[97, 98, 99, 100, 101, 102, 103, 104]⟩, .slice le 1 lke, .slice none 0 0, .slice none 0 0]) := HC18_3.out.below ba HC18_3.out.lt
      have HF19_0 : Hid ((wrA.alloc (.cells #[.int .i64 0, .int .i64 0, .slice none 0 0, .slice none 0 0] 27)).cell? ⟨b, off, none⟩ = some (.string ⟨#[101, 120, 116, 114, 97]⟩) ∧ (⟨b, off, none⟩ : Addr).block < (wrA.alloc (.cells #[.int .i64 0, .int .i64 0, .slice none 0 0, .slice none 0 0] 27)).heap.size) := ⟨(ba.cell (p := ⟨b, off, none⟩) HF18_0.out.2).trans HF18_0.out.1, Nat.lt_of_lt_of_le HF18_0.out.2 ba.size⟩
      clear HB18 HC18_0 HC18_1 HC18_2 HC18_3 HF18_0
      clear ba
      have HC20 : Hid (CellsAt (wrA.alloc (.cells #[.int .i64 0, .int .i64 0, .slice none 0 0, .slice none 0 0] 27)) wrA.heap.size 27 #[.int .i64 0, .int .i64 0, .slice none 0 0, .slice none 0 0]) := CellsAt.new _ _ _
      have hba : Below wrA.heap.size wrA (wrA.alloc (.cells #[.int .i64 0, .int .i64 0, .slice none 0 0, .slice none 0 0] 27)) := (Below.refl _ _).alloc (Nat.le_refl _) _
      have HMaB : Hid (IsMod (wrA.alloc (.cells #[.int .i64 0, .int .i64 0, .slice none 0 0, .slice none 0 0] 27)).heap.size (wrA.alloc (.cells #[.int .i64 0, .int .i64 0, .slice none 0 0, .slice none 0 0] 27)) (.agg #[.string ⟨#[108, 105, 98]⟩, .int .i64 1, .int .i64 9, .string ⟨#[97, 98, 99, 100, 101, 102, 103, 104]⟩, .slice le 1 lke, .slice none 0 0, .slice none 0 0]) lib9M) := (HMrA.out.below hba).more hba.size
      have HRaB : Hid (IsReg (wrA.alloc (.cells #[.int .i64 0, .int .i64 0, .slice none 0 0, .slice none 0 0] 27)).heap.size (wrA.alloc (.cells #[.int .i64 0, .int .i64 0, .slice none 0 0, .slice none 0 0] 27)) v4 kernK l4) := (HRrA.out.below hba).more hba.size
      clear hba HMrA HRrA
      refine hK.out _ _ HC19_3.out (fun _ => ?_)
      clear hK Kq
      generalize (wrA.alloc (.cells #[.int .i64 0, .int .i64 0, .slice none 0 0, .slice none 0 0] 27)) = waB at *
      generalize wrA.heap.size = gU at *
      refine wpL_step (i := 2) rfl (by kernel_rfl) (fun Kq hK => ?_)
      go_simp
      refine (HUP.out l4 v4 _ _ HLr.out HRaB.out HMaB.out).mono ?_
      rintro e wuB ⟨⟨mu, nu, qu, ku, ju, bu, ou, cu, rfl, hbu, hu15, hu10⟩, bu4⟩
      have HB21 : Hid (Below w.heap.size w wuB) := HB19.out.trans (bu4.mono HB19.out.size)
      have HC21_0 : Hid (CellsAt wuB gA 27 #[.int .i64 ma, .int .i64 mi, .slice q lk j, .slice (some ⟨b, off, none⟩) 3 c]) := HC19_0.out.below bu4 HC19_0.out.lt
      have HC21_1 : Hid (CellsAt wuB gB 27 #[.int .i64 mb, .int .i64 nb, .slice qb kb jb, .slice xb 1 cb]) := HC19_1.out.below bu4 HC19_1.out.lt
      have HC21_2 : Hid (CellsAt wuB gS 27 #[.int .i64 ms, .int .i64 ns, .slice qs ks js, .slice xs ls cs]) := HC19_2.out.below bu4 HC19_2.out.lt
      have HC21_3 : Hid (CellsAt wuB gM 31 #[.string ⟨#[108, 105, 98]⟩, .int .i64 1, .int .i64 9, .string ⟨#[97, 98, 99, 100, 101, 102, 103, 104]⟩, .slice le 1 lke, .slice none 0 0, .slice none 0 0]) := HC19_3.out.below bu4 HC19_3.out.lt
      have HC21_4 : Hid (CellsAt wuB gU 27 #[.int .i64 0, .int .i64 0, .slice none 0 0, .slice none 0 0]) := HC20.out.below bu4 HC20.out.lt
      have HF21_0 : Hid (wuB.cell? ⟨b, off, none⟩ = some (.string ⟨#[101, 120, 116, 114, 97]⟩) ∧ (⟨b, off, none⟩ : Addr).block < wuB.heap.size) := ⟨(bu4.cell (p := ⟨b, off, none⟩) HF19_0.out.2).trans HF19_0.out.1, Nat.lt_of_lt_of_le HF19_0.out.2 bu4.size⟩
      clear HB19 HC19_0 HC19_1 HC19_2 HC19_3 HC20 HF19_0
      have HU15 : Hid (wuB.cell? ⟨bu, ou + 15, none⟩ = some (.int .i64 4) ∧ (⟨bu, ou + 15, none⟩ : Addr).block < wuB.heap.size) := ⟨hu15, hbu⟩
      have HU10 : Hid (wuB.cell? ⟨bu, ou + 10, none⟩ = some (.int .i64 9) ∧ (⟨bu, ou + 10, none⟩ : Addr).block < wuB.heap.size) := ⟨hu10, hbu⟩
      clear bu4 hu15 hu10 hbu HUP HLr HRaB HMaB
      go_simp
      refine hK.out _ _ HC21_3.out (fun _ => ?_)
      clear hK Kq
      refine wpL_take 3 28 (.tuple #[.agg #[.int .i64 mu, .int .i64 nu, .slice qu ku ju, .slice (some ⟨bu, ou, none⟩) 2 cu], .int .i64 0]) rfl (by kernel_rfl) (fun _ _ _ h => h) HC21_3.out rfl rfl (fun w' hSw => by clear hSw; go_simp) ?_
      simp only [List.setIfInBounds_toArray, List.set_cons_zero, List.set_cons_succ]
      refine wpL_take 4 32 (.agg #[.int .i64 mu, .int .i64 nu, .slice qu ku ju, .slice (some ⟨bu, ou, none⟩) 2 cu]) rfl (by kernel_rfl) (fun _ _ _ h => h) HC21_3.out rfl rfl (fun w' hSw => by clear hSw; go_simp) ?_
      simp only [List.setIfInBounds_toArray, List.set_cons_zero, List.set_cons_succ]
      refine wpL_take 5 33 (.int .i64 0) rfl (by kernel_rfl) (fun _ _ _ h => h) HC21_3.out rfl rfl (fun w' hSw => by clear hSw; go_simp) ?_
      simp only [List.setIfInBounds_toArray, List.set_cons_zero, List.set_cons_succ]
      have z0 := CellsAt.cell HC21_4.out 0
      have f0 := CellsAt.frozen HC21_4.out 0
      have z1 := CellsAt.cell HC21_4.out 1
      have f1 := CellsAt.frozen HC21_4.out 1
      have z2 := CellsAt.cell HC21_4.out 2
      have f2 := CellsAt.frozen HC21_4.out 2
      have z3 := CellsAt.cell HC21_4.out 3
      have f3 := CellsAt.frozen HC21_4.out 3
      have zl := CellsAt.lt HC21_4.out
      simp at z0 z1 z2 z3
      refine wpL_step (i := 7) rfl (by kernel_rfl) (fun Kq hK => ?_)
      go_simp
      have hG := sets4_grown wuB gU (.int .i64 mu) (.int .i64 nu) (.slice qu ku ju) (.slice (some ⟨bu, ou, none⟩) 2 cu)
      have HBz : Hid (Below w.heap.size w ((((wuB.setCell ⟨gU, 0, none⟩ (.int .i64 mu)).setCell ⟨gU, 1, none⟩ (.int .i64 nu)).setCell ⟨gU, 2, none⟩ (.slice qu ku ju)).setCell ⟨gU, 3, none⟩ (.slice (some ⟨bu, ou, none⟩) 2 cu))) := HB21.out.grown hG HB21.out.size (fun q hq => by obtain rfl := Option.some.inj hq; omega)
      have hne0 : (some (⟨b, off, none⟩ : Addr).block : Option Nat) ≠ some gU := by
        intro e
        have e : b = gU := Option.some.inj e
        subst e
        exact (zreg_cells HC21_4.out off).1 _ HF21_0.out.1
      have HFz_0 : Hid (((((wuB.setCell ⟨gU, 0, none⟩ (.int .i64 mu)).setCell ⟨gU, 1, none⟩ (.int .i64 nu)).setCell ⟨gU, 2, none⟩ (.slice qu ku ju)).setCell ⟨gU, 3, none⟩ (.slice (some ⟨bu, ou, none⟩) 2 cu)).cell? ⟨b, off, none⟩ = some (.string ⟨#[101, 120, 116, 114, 97]⟩) ∧ (⟨b, off, none⟩ : Addr).block < ((((wuB.setCell ⟨gU, 0, none⟩ (.int .i64 mu)).setCell ⟨gU, 1, none⟩ (.int .i64 nu)).setCell ⟨gU, 2, none⟩ (.slice qu ku ju)).setCell ⟨gU, 3, none⟩ (.slice (some ⟨bu, ou, none⟩) 2 cu)).heap.size) := ⟨hG.cell HF21_0.out.1 hne0, Nat.lt_of_lt_of_le HF21_0.out.2 hG.size⟩
      clear hne0
      have hne1 : (some (⟨bu, ou + 15, none⟩ : Addr).block : Option Nat) ≠ some gU := by
        intro e
        have e : bu = gU := Option.some.inj e
        subst e
        have h1 := HU15.out.1
        rw [zreg_no HC21_4.out (by omega)] at h1
        cases h1
      have HFz_1 : Hid (((((wuB.setCell ⟨gU, 0, none⟩ (.int .i64 mu)).setCell ⟨gU, 1, none⟩ (.int .i64 nu)).setCell ⟨gU, 2, none⟩ (.slice qu ku ju)).setCell ⟨gU, 3, none⟩ (.slice (some ⟨bu, ou, none⟩) 2 cu)).cell? ⟨bu, ou + 15, none⟩ = some (.int .i64 4) ∧ (⟨bu, ou + 15, none⟩ : Addr).block < ((((wuB.setCell ⟨gU, 0, none⟩ (.int .i64 mu)).setCell ⟨gU, 1, none⟩ (.int .i64 nu)).setCell ⟨gU, 2, none⟩ (.slice qu ku ju)).setCell ⟨gU, 3, none⟩ (.slice (some ⟨bu, ou, none⟩) 2 cu)).heap.size) := ⟨hG.cell HU15.out.1 hne1, Nat.lt_of_lt_of_le HU15.out.2 hG.size⟩
      clear hne1
      have hne2 : (some (⟨bu, ou + 10, none⟩ : Addr).block : Option Nat) ≠ some gU := by
        intro e
        have e : bu = gU := Option.some.inj e
        subst e
        have h1 := HU10.out.1
        rw [zreg_no HC21_4.out (by omega)] at h1
        cases h1
      have HFz_2 : Hid (((((wuB.setCell ⟨gU, 0, none⟩ (.int .i64 mu)).setCell ⟨gU, 1, none⟩ (.int .i64 nu)).setCell ⟨gU, 2, none⟩ (.slice qu ku ju)).setCell ⟨gU, 3, none⟩ (.slice (some ⟨bu, ou, none⟩) 2 cu)).cell? ⟨bu, ou + 10, none⟩ = some (.int .i64 9) ∧ (⟨bu, ou + 10, none⟩ : Addr).block < ((((wuB.setCell ⟨gU, 0, none⟩ (.int .i64 mu)).setCell ⟨gU, 1, none⟩ (.int .i64 nu)).setCell ⟨gU, 2, none⟩ (.slice qu ku ju)).setCell ⟨gU, 3, none⟩ (.slice (some ⟨bu, ou, none⟩) 2 cu)).heap.size) := ⟨hG.cell HU10.out.1 hne2, Nat.lt_of_lt_of_le HU10.out.2 hG.size⟩
      clear hne2
      have HCz_0 : Hid (CellsAt ((((wuB.setCell ⟨gU, 0, none⟩ (.int .i64 mu)).setCell ⟨gU, 1, none⟩ (.int .i64 nu)).setCell ⟨gU, 2, none⟩ (.slice qu ku ju)).setCell ⟨gU, 3, none⟩ (.slice (some ⟨bu, ou, none⟩) 2 cu)) gA 27 #[.int .i64 ma, .int .i64 mi, .slice q lk j, .slice (some ⟨b, off, none⟩) 3 c]) := HC21_0.out.kept hG (by intro e; have := Option.some.inj e; omega)
      have HCz_1 : Hid (CellsAt ((((wuB.setCell ⟨gU, 0, none⟩ (.int .i64 mu)).setCell ⟨gU, 1, none⟩ (.int .i64 nu)).setCell ⟨gU, 2, none⟩ (.slice qu ku ju)).setCell ⟨gU, 3, none⟩ (.slice (some ⟨bu, ou, none⟩) 2 cu)) gB 27 #[.int .i64 mb, .int .i64 nb, .slice qb kb jb, .slice xb 1 cb]) := HC21_1.out.kept hG (by intro e; have := Option.some.inj e; omega)
      have HCz_2 : Hid (CellsAt ((((wuB.setCell ⟨gU, 0, none⟩ (.int .i64 mu)).setCell ⟨gU, 1, none⟩ (.int .i64 nu)).setCell ⟨gU, 2, none⟩ (.slice qu ku ju)).setCell ⟨gU, 3, none⟩ (.slice (some ⟨bu, ou, none⟩) 2 cu)) gS 27 #[.int .i64 ms, .int .i64 ns, .slice qs ks js, .slice xs ls cs]) := HC21_2.out.kept hG (by intro e; have := Option.some.inj e; omega)
      have HCz_3 : Hid (CellsAt ((((wuB.setCell ⟨gU, 0, none⟩ (.int .i64 mu)).setCell ⟨gU, 1, none⟩ (.int .i64 nu)).setCell ⟨gU, 2, none⟩ (.slice qu ku ju)).setCell ⟨gU, 3, none⟩ (.slice (some ⟨bu, ou, none⟩) 2 cu)) gM 31 #[.string ⟨#[108, 105, 98]⟩, .int .i64 1, .int .i64 9, .string ⟨#[97, 98, 99, 100, 101, 102, 103, 104]⟩, .slice le 1 lke, .slice none 0 0, .slice none 0 0]) := HC21_3.out.kept hG (by intro e; have := Option.some.inj e; omega)
      have HCz_4 : Hid (CellsAt ((((wuB.setCell ⟨gU, 0, none⟩ (.int .i64 mu)).setCell ⟨gU, 1, none⟩ (.int .i64 nu)).setCell ⟨gU, 2, none⟩ (.slice qu ku ju)).setCell ⟨gU, 3, none⟩ (.slice (some ⟨bu, ou, none⟩) 2 cu)) gU 27 #[.int .i64 mu, .int .i64 nu, .slice qu ku ju, .slice (some ⟨bu, ou, none⟩) 2 cu]) := sets4 HC21_4.out _ _ _ _
      clear hG z0 z1 z2 z3 f0 f1 f2 f3 zl HB21 HF21_0 HU15 HU10 HC21_0 HC21_1 HC21_2 HC21_3 HC21_4
      refine hK.out _ _ HCz_3.out (fun _ => ?_)
      clear hK Kq
      generalize ((((wuB.setCell ⟨gU, 0, none⟩ (.int .i64 mu)).setCell ⟨gU, 1, none⟩ (.int .i64 nu)).setCell ⟨gU, 2, none⟩ (.slice qu ku ju)).setCell ⟨gU, 3, none⟩ (.slice (some ⟨bu, ou, none⟩) 2 cu)) = wz at *
      refine wpL_last (x := 8) rfl (by kernel_rfl) (by kernel_rfl) (fun Kq hK => ?_)
      go_simp
      refine hK.out _ _ ?_
      refine NoPanic.normal ?_
      clear hK Kq
      have ygA := CellsAt.cell HCz_0.out 3
      have ylgA := CellsAt.lt HCz_0.out
      have ygB := CellsAt.cell HCz_1.out 3
      have ylgB := CellsAt.lt HCz_1.out
      have ygU := CellsAt.cell HCz_4.out 3
      have ylgU := CellsAt.lt HCz_4.out
      simp at ygA ygB ygU
      obtain ⟨x0, xl0⟩ := HFz_0.out
      obtain ⟨x1, xl1⟩ := HFz_1.out
      obtain ⟨x2, xl2⟩ := HFz_2.out
      dsimp only at xl0 xl1 xl2
      go_wp2
      go_ret
      exact ⟨rfl, HBz.out⟩
  · go_simp
    have ba : Below w12.heap.size w12 (w12.alloc (.cells #[.int .i64 0, .int .i64 0, .slice none 0 0, .slice none 0 0] 27)) := (Below.refl _ _).alloc (Nat.le_refl _) _
    have ol_gA_gU : gA < w12.heap.size := CellsAt.lt HCd_0.out
    have ol_gB_gU : gB < w12.heap.size := CellsAt.lt HCd_1.out
    have ol_gS_gU : gS < w12.heap.size := CellsAt.lt HCd_2.out
    have ol_gM_gU : gM < w12.heap.size := CellsAt.lt HCd_3.out
    have olw_gU : w.heap.size ≤ w12.heap.size := HBd.out.size
    have HB18 : Hid (Below w.heap.size w (w12.alloc (.cells #[.int .i64 0, .int .i64 0, .slice none 0 0, .slice none 0 0] 27))) := HBd.out.trans (ba.mono HBd.out.size)
    have HC18_0 : Hid (CellsAt (w12.alloc (.cells #[.int .i64 0, .int .i64 0, .slice none 0 0, .slice none 0 0] 27)) gA 27 #[.int .i64 ma, .int .i64 mi, .slice q lk j, .slice (some ⟨b, off, none⟩) 3 c]) := HCd_0.out.below ba HCd_0.out.lt
    have HC18_1 : Hid (CellsAt (w12.alloc (.cells #[.int .i64 0, .int .i64 0, .slice none 0 0, .slice none 0 0] 27)) gB 27 #[.int .i64 mb, .int .i64 nb, .slice qb kb jb, .slice xb 1 cb]) := HCd_1.out.below ba HCd_1.out.lt
    have HC18_2 : Hid (CellsAt (w12.alloc (.cells #[.int .i64 0, .int .i64 0, .slice none 0 0, .slice none 0 0] 27)) gS 27 #[.int .i64 ms, .int .i64 ns, .slice qs ks js, .slice xs ls cs]) := HCd_2.out.below ba HCd_2.out.lt
    have HC18_3 : Hid (CellsAt (w12.alloc (.cells #[.int .i64 0, .int .i64 0, .slice none 0 0, .slice none 0 0] 27)) gM 31 #[.string ⟨#[108, 105, 98]⟩, .int .i64 1, .int .i64 9, .string ⟨#[97, 98, 99, 100, 101, 102, 103, 104]⟩, .slice le 1 lke, .slice none 0 0, .slice none 0 0]) := HCd_3.out.below ba HCd_3.out.lt
    have HF18_0 : Hid ((w12.alloc (.cells #[.int .i64 0, .int .i64 0, .slice none 0 0, .slice none 0 0] 27)).cell? ⟨b, off, none⟩ = some (.string ⟨#[101, 120, 116, 114, 97]⟩) ∧ (⟨b, off, none⟩ : Addr).block < (w12.alloc (.cells #[.int .i64 0, .int .i64 0, .slice none 0 0, .slice none 0 0] 27)).heap.size) := ⟨(ba.cell (p := ⟨b, off, none⟩) HFd_0.out.2).trans HFd_0.out.1, Nat.lt_of_lt_of_le HFd_0.out.2 ba.size⟩
    clear HBd HCd_0 HCd_1 HCd_2 HCd_3 HFd_0
    clear ba
    have HC19 : Hid (CellsAt (w12.alloc (.cells #[.int .i64 0, .int .i64 0, .slice none 0 0, .slice none 0 0] 27)) w12.heap.size 27 #[.int .i64 0, .int .i64 0, .slice none 0 0, .slice none 0 0]) := CellsAt.new _ _ _
    have hba : Below w12.heap.size w12 (w12.alloc (.cells #[.int .i64 0, .int .i64 0, .slice none 0 0, .slice none 0 0] 27)) := (Below.refl _ _).alloc (Nat.le_refl _) _
    have HMaC : Hid (IsMod (w12.alloc (.cells #[.int .i64 0, .int .i64 0, .slice none 0 0, .slice none 0 0] 27)).heap.size (w12.alloc (.cells #[.int .i64 0, .int .i64 0, .slice none 0 0, .slice none 0 0] 27)) (.agg #[.string ⟨#[108, 105, 98]⟩, .int .i64 1, .int .i64 9, .string ⟨#[97, 98, 99, 100, 101, 102, 103, 104]⟩, .slice le 1 lke, .slice none 0 0, .slice none 0 0]) lib9M) := (HMd.out.below hba).more hba.size
    clear hba HMd
    refine hK.out _ _ HC18_3.out (fun _ => ?_)
    clear hK Kq
    generalize (w12.alloc (.cells #[.int .i64 0, .int .i64 0, .slice none 0 0, .slice none 0 0] 27)) = waC at *
    generalize w12.heap.size = gU at *
    refine wpL_step (i := 0) rfl (by kernel_rfl) (fun Kq hK => ?_)
    go_simp
    refine (reg_any _).mono ?_
    rintro e wrC ⟨v4, l4, rfl, hl4, hR4, br⟩
    have HB20 : Hid (Below w.heap.size w wrC) := HB18.out.trans (br.mono HB18.out.size)
    have HC20_0 : Hid (CellsAt wrC gA 27 #[.int .i64 ma, .int .i64 mi, .slice q lk j, .slice (some ⟨b, off, none⟩) 3 c]) := HC18_0.out.below br HC18_0.out.lt
    have HC20_1 : Hid (CellsAt wrC gB 27 #[.int .i64 mb, .int .i64 nb, .slice qb kb jb, .slice xb 1 cb]) := HC18_1.out.below br HC18_1.out.lt
    have HC20_2 : Hid (CellsAt wrC gS 27 #[.int .i64 ms, .int .i64 ns, .slice qs ks js, .slice xs ls cs]) := HC18_2.out.below br HC18_2.out.lt
    have HC20_3 : Hid (CellsAt wrC gM 31 #[.string ⟨#[108, 105, 98]⟩, .int .i64 1, .int .i64 9, .string ⟨#[97, 98, 99, 100, 101, 102, 103, 104]⟩, .slice le 1 lke, .slice none 0 0, .slice none 0 0]) := HC18_3.out.below br HC18_3.out.lt
    have HC20_4 : Hid (CellsAt wrC gU 27 #[.int .i64 0, .int .i64 0, .slice none 0 0, .slice none 0 0]) := HC19.out.below br HC19.out.lt
    have HF20_0 : Hid (wrC.cell? ⟨b, off, none⟩ = some (.string ⟨#[101, 120, 116, 114, 97]⟩) ∧ (⟨b, off, none⟩ : Addr).block < wrC.heap.size) := ⟨(br.cell (p := ⟨b, off, none⟩) HF18_0.out.2).trans HF18_0.out.1, Nat.lt_of_lt_of_le HF18_0.out.2 br.size⟩
    clear HB18 HC18_0 HC18_1 HC18_2 HC18_3 HC19 HF18_0
    have HMrC : Hid (IsMod wrC.heap.size wrC (.agg #[.string ⟨#[108, 105, 98]⟩, .int .i64 1, .int .i64 9, .string ⟨#[97, 98, 99, 100, 101, 102, 103, 104]⟩, .slice le 1 lke, .slice none 0 0, .slice none 0 0]) lib9M) := (HMaC.out.below br).more br.size
    have HRrC : Hid (IsReg wrC.heap.size wrC v4 kernK l4) := hR4
    have HLr : Hid (l4.map PV.plc = pairL) := hl4
    clear br hR4 hl4 HMaC
    go_simp
    refine hK.out _ _ HC20_3.out (fun _ => ?_)
    clear hK Kq
    refine wpL_step (i := 2) rfl (by kernel_rfl) (fun Kq hK => ?_)
    go_simp
    refine (HUP.out l4 v4 _ _ HLr.out HRrC.out HMrC.out).mono ?_
    rintro e wuC ⟨⟨mu, nu, qu, ku, ju, bu, ou, cu, rfl, hbu, hu15, hu10⟩, bu4⟩
    have HB21 : Hid (Below w.heap.size w wuC) := HB20.out.trans (bu4.mono HB20.out.size)
    have HC21_0 : Hid (CellsAt wuC gA 27 #[.int .i64 ma, .int .i64 mi, .slice q lk j, .slice (some ⟨b, off, none⟩) 3 c]) := HC20_0.out.below bu4 HC20_0.out.lt
    have HC21_1 : Hid (CellsAt wuC gB 27 #[.int .i64 mb, .int .i64 nb, .slice qb kb jb, .slice xb 1 cb]) := HC20_1.out.below bu4 HC20_1.out.lt
    have HC21_2 : Hid (CellsAt wuC gS 27 #[.int .i64 ms, .int .i64 ns, .slice qs ks js, .slice xs ls cs]) := HC20_2.out.below bu4 HC20_2.out.lt
    have HC21_3 : Hid (CellsAt wuC gM 31 #[.string ⟨#[108, 105, 98]⟩, .int .i64 1, .int .i64 9, .string ⟨#[97, 98, 99, 100, 101, 102, 103, 104]⟩, .slice le 1 lke, .slice none 0 0, .slice none 0 0]) := HC20_3.out.below bu4 HC20_3.out.lt
    have HC21_4 : Hid (CellsAt wuC gU 27 #[.int .i64 0, .int .i64 0, .slice none 0 0, .slice none 0 0]) := HC20_4.out.below bu4 HC20_4.out.lt
    have HF21_0 : Hid (wuC.cell? ⟨b, off, none⟩ = some (.string ⟨#[101, 120, 116, 114, 97]⟩) ∧ (⟨b, off, none⟩ : Addr).block < wuC.heap.size) := ⟨(bu4.cell (p := ⟨b, off, none⟩) HF20_0.out.2).trans HF20_0.out.1, Nat.lt_of_lt_of_le HF20_0.out.2 bu4.size⟩
    clear HB20 HC20_0 HC20_1 HC20_2 HC20_3 HC20_4 HF20_0
    have HU15 : Hid (wuC.cell? ⟨bu, ou + 15, none⟩ = some (.int .i64 4) ∧ (⟨bu, ou + 15, none⟩ : Addr).block < wuC.heap.size) := ⟨hu15, hbu⟩
    have HU10 : Hid (wuC.cell? ⟨bu, ou + 10, none⟩ = some (.int .i64 9) ∧ (⟨bu, ou + 10, none⟩ : Addr).block < wuC.heap.size) := ⟨hu10, hbu⟩
    clear bu4 hu15 hu10 hbu HUP HLr HRrC HMrC
    go_simp
    refine hK.out _ _ HC21_3.out (fun _ => ?_)
    clear hK Kq
    refine wpL_take 3 28 (.tuple #[.agg #[.int .i64 mu, .int .i64 nu, .slice qu ku ju, .slice (some ⟨bu, ou, none⟩) 2 cu], .int .i64 0]) rfl (by kernel_rfl) (fun _ _ _ h => h) HC21_3.out rfl rfl (fun w' hSw => by clear hSw; go_simp) ?_
    simp only [List.setIfInBounds_toArray, List.set_cons_zero, List.set_cons_succ]
    refine wpL_take 4 32 (.agg #[.int .i64 mu, .int .i64 nu, .slice qu ku ju, .slice (some ⟨bu, ou, none⟩) 2 cu]) rfl (by kernel_rfl) (fun _ _ _ h => h) HC21_3.out rfl rfl (fun w' hSw => by clear hSw; go_simp) ?_
    simp only [List.setIfInBounds_toArray, List.set_cons_zero, List.set_cons_succ]
    refine wpL_take 5 33 (.int .i64 0) rfl (by kernel_rfl) (fun _ _ _ h => h) HC21_3.out rfl rfl (fun w' hSw => by clear hSw; go_simp) ?_
    simp only [List.setIfInBounds_toArray, List.set_cons_zero, List.set_cons_succ]
    have z0 := CellsAt.cell HC21_4.out 0
    have f0 := CellsAt.frozen HC21_4.out 0
    have z1 := CellsAt.cell HC21_4.out 1
    have f1 := CellsAt.frozen HC21_4.out 1
    have z2 := CellsAt.cell HC21_4.out 2
    have f2 := CellsAt.frozen HC21_4.out 2
    have z3 := CellsAt.cell HC21_4.out 3
    have f3 := CellsAt.frozen HC21_4.out 3
    have zl := CellsAt.lt HC21_4.out
    simp at z0 z1 z2 z3
    refine wpL_step (i := 7) rfl (by kernel_rfl) (fun Kq hK => ?_)
    go_simp
    have hG := sets4_grown wuC gU (.int .i64 mu) (.int .i64 nu) (.slice qu ku ju) (.slice (some ⟨bu, ou, none⟩) 2 cu)
    have HBz : Hid (Below w.heap.size w ((((wuC.setCell ⟨gU, 0, none⟩ (.int .i64 mu)).setCell ⟨gU, 1, none⟩ (.int .i64 nu)).setCell ⟨gU, 2, none⟩ (.slice qu ku ju)).setCell ⟨gU, 3, none⟩ (.slice (some ⟨bu, ou, none⟩) 2 cu))) := HB21.out.grown hG HB21.out.size (fun q hq => by obtain rfl := Option.some.inj hq; omega)
    have hne0 : (some (⟨b, off, none⟩ : Addr).block : Option Nat) ≠ some gU := by
      intro e
      have e : b = gU := Option.some.inj e
      subst e
      exact (zreg_cells HC21_4.out off).1 _ HF21_0.out.1
    have HFz_0 : Hid (((((wuC.setCell ⟨gU, 0, none⟩ (.int .i64 mu)).setCell ⟨gU, 1, none⟩ (.int .i64 nu)).setCell ⟨gU, 2, none⟩ (.slice qu ku ju)).setCell ⟨gU, 3, none⟩ (.slice (some ⟨bu, ou, none⟩) 2 cu)).cell? ⟨b, off, none⟩ = some (.string ⟨#[101, 120, 116, 114, 97]⟩) ∧ (⟨b, off, none⟩ : Addr).block < ((((wuC.setCell ⟨gU, 0, none⟩ (.int .i64 mu)).setCell ⟨gU, 1, none⟩ (.int .i64 nu)).setCell ⟨gU, 2, none⟩ (.slice qu ku ju)).setCell ⟨gU, 3, none⟩ (.slice (some ⟨bu, ou, none⟩) 2 cu)).heap.size) := ⟨hG.cell HF21_0.out.1 hne0, Nat.lt_of_lt_of_le HF21_0.out.2 hG.size⟩
    clear hne0
    have hne1 : (some (⟨bu, ou + 15, none⟩ : Addr).block : Option Nat) ≠ some gU := by
      intro e
      have e : bu = gU := Option.some.inj e
      subst e
      have h1 := HU15.out.1
      rw [zreg_no HC21_4.out (by omega)] at h1
      cases h1
    have HFz_1 : Hid (((((wuC.setCell ⟨gU, 0, none⟩ (.int .i64 mu)).setCell ⟨gU, 1, none⟩ (.int .i64 nu)).setCell ⟨gU, 2, none⟩ (.slice qu ku ju)).setCell ⟨gU, 3, none⟩ (.slice (some ⟨bu, ou, none⟩) 2 cu)).cell? ⟨bu, ou + 15, none⟩ = some (.int .i64 4) ∧ (⟨bu, ou + 15, none⟩ : Addr).block < ((((wuC.setCell ⟨gU, 0, none⟩ (.int .i64 mu)).setCell ⟨gU, 1, none⟩ (.int .i64 nu)).setCell ⟨gU, 2, none⟩ (.slice qu ku ju)).setCell ⟨gU, 3, none⟩ (.slice (some ⟨bu, ou, none⟩) 2 cu)).heap.size) := ⟨hG.cell HU15.out.1 hne1, Nat.lt_of_lt_of_le HU15.out.2 hG.size⟩
    clear hne1
    have hne2 : (some (⟨bu, ou + 10, none⟩ : Addr).block : Option Nat) ≠ some gU := by
      intro e
      have e : bu = gU := Option.some.inj e
      subst e
      have h1 := HU10.out.1
      rw [zreg_no HC21_4.out (by omega)] at h1
      cases h1
    have HFz_2 : Hid (((((wuC.setCell ⟨gU, 0, none⟩ (.int .i64 mu)).setCell ⟨gU, 1, none⟩ (.int .i64 nu)).setCell ⟨gU, 2, none⟩ (.slice qu ku ju)).setCell ⟨gU, 3, none⟩ (.slice (some ⟨bu, ou, none⟩) 2 cu)).cell? ⟨bu, ou + 10, none⟩ = some (.int .i64 9) ∧ (⟨bu, ou + 10, none⟩ : Addr).block < ((((wuC.setCell ⟨gU, 0, none⟩ (.int .i64 mu)).setCell ⟨gU, 1, none⟩ (.int .i64 nu)).setCell ⟨gU, 2, none⟩ (.slice qu ku ju)).setCell ⟨gU, 3, none⟩ (.slice (some ⟨bu, ou, none⟩) 2 cu)).heap.size) := ⟨hG.cell HU10.out.1 hne2, Nat.lt_of_lt_of_le HU10.out.2 hG.size⟩
    clear hne2
    have HCz_0 : Hid (CellsAt ((((wuC.setCell ⟨gU, 0, none⟩ (.int .i64 mu)).setCell ⟨gU, 1, none⟩ (.int .i64 nu)).setCell ⟨gU, 2, none⟩ (.slice qu ku ju)).setCell ⟨gU, 3, none⟩ (.slice (some ⟨bu, ou, none⟩) 2 cu)) gA 27 #[.int .i64 ma, .int .i64 mi, .slice q lk j, .slice (some ⟨b, off, none⟩) 3 c]) := HC21_0.out.kept hG (by intro e; have := Option.some.inj e; omega)
    have HCz_1 : Hid (CellsAt ((((wuC.setCell ⟨gU, 0, none⟩ (.int .i64 mu)).setCell ⟨gU, 1, none⟩ (.int .i64 nu)).setCell ⟨gU, 2, none⟩ (.slice qu ku ju)).setCell ⟨gU, 3, none⟩ (.slice (some ⟨bu, ou, none⟩) 2 cu)) gB 27 #[.int .i64 mb, .int .i64 nb, .slice qb kb jb, .slice xb 1 cb]) := HC21_1.out.kept hG (by intro e; have := Option.some.inj e; omega)
    have HCz_2 : Hid (CellsAt ((((wuC.setCell ⟨gU, 0, none⟩ (.int .i64 mu)).setCell ⟨gU, 1, none⟩ (.int .i64 nu)).setCell ⟨gU, 2, none⟩ (.slice qu ku ju)).setCell ⟨gU, 3, none⟩ (.slice (some ⟨bu, ou, none⟩) 2 cu)) gS 27 #[.int .i64 ms, .int .i64 ns, .slice qs ks js, .slice xs ls cs]) := HC21_2.out.kept hG (by intro e; have := Option.some.inj e; omega)
    have HCz_3 : Hid (CellsAt ((((wuC.setCell ⟨gU, 0, none⟩ (.int .i64 mu)).setCell ⟨gU, 1, none⟩ (.int .i64 nu)).setCell ⟨gU, 2, none⟩ (.slice qu ku ju)).setCell ⟨gU, 3, none⟩ (.slice (some ⟨bu, ou, none⟩) 2 cu)) gM 31 #[.string ⟨#[108, 105, 98]⟩, .int .i64 1, .int .i64 9, .string ⟨#[97, 98, 99, 100, 101, 102, 103, 104]⟩, .slice le 1 lke, .slice none 0 0, .slice none 0 0]) := HC21_3.out.kept hG (by intro e; have := Option.some.inj e; omega)
    have HCz_4 : Hid (CellsAt ((((wuC.setCell ⟨gU, 0, none⟩ (.int .i64 mu)).setCell ⟨gU, 1, none⟩ (.int .i64 nu)).setCell ⟨gU, 2, none⟩ (.slice qu ku ju)).setCell ⟨gU, 3, none⟩ (.slice (some ⟨bu, ou, none⟩) 2 cu)) gU 27 #[.int .i64 mu, .int .i64 nu, .slice qu ku ju, .slice (some ⟨bu, ou, none⟩) 2 cu]) := sets4 HC21_4.out _ _ _ _
    clear hG z0 z1 z2 z3 f0 f1 f2 f3 zl HB21 HF21_0 HU15 HU10 HC21_0 HC21_1 HC21_2 HC21_3 HC21_4
    refine hK.out _ _ HCz_3.out (fun _ => ?_)
    clear hK Kq
    generalize ((((wuC.setCell ⟨gU, 0, none⟩ (.int .i64 mu)).setCell ⟨gU, 1, none⟩ (.int .i64 nu)).setCell ⟨gU, 2, none⟩ (.slice qu ku ju)).setCell ⟨gU, 3, none⟩ (.slice (some ⟨bu, ou, none⟩) 2 cu)) = wz at *
    refine wpL_last (x := 8) rfl (by kernel_rfl) (by kernel_rfl) (fun Kq hK => ?_)
    go_simp
    refine hK.out _ _ ?_
    refine NoPanic.normal ?_
    clear hK Kq
    have ygA := CellsAt.cell HCz_0.out 3
    have ylgA := CellsAt.lt HCz_0.out
    have ygB := CellsAt.cell HCz_1.out 3
    have ylgB := CellsAt.lt HCz_1.out
    have ygU := CellsAt.cell HCz_4.out 3
    have ylgU := CellsAt.lt HCz_4.out
    simp at ygA ygB ygU
    obtain ⟨x0, xl0⟩ := HFz_0.out
    obtain ⟨x1, xl1⟩ := HFz_1.out
    obtain ⟨x2, xl2⟩ := HFz_2.out
    dsimp only at xl0 xl1 xl2
    go_wp2
    go_ret
    exact ⟨rfl, HBz.out⟩

end Go.Proofs.YthmohjgdcjafkaeGreat

/- What becomes of registries that are right, as data. -/
namespace Go.Proofs.YthmohjgdcjafkaeGreat
open Go.RowKit Go.PlainAid Go.Lib

theorem rg_names {K : Ker} {L : List Plc} (h : chkRg K L = 0) : (L.map (·.mod.name)).Nodup := (chkGraph_zero.1 (rg_graph h)).2.2
theorem rg_mods {K : Ker} {L : List Plc} (h : chkRg K L = 0) : ∀ p ∈ L, chkMod p.mod = 0 := (chkGraph_zero.1 (rg_graph h)).2.1
theorem rg_reg {K : Ker} {L : List Plc} (h : chkRg K L = 0) : chkReg L = 0 := (chkLink_zero (chkRg_zero h).1).2.1
/-- Where names are there once, each is found where it is. -/
theorem ix_name : ∀ {L : List Plc} (k : Nat), (L.map (·.mod.name)).Nodup → ∀ {j : Nat} {p : Plc}, L[j]? = some p → ixFrom (fun q : Plc => q.mod.name == p.mod.name) k L = ((k + j : Nat) : Int)
  | [], _, _, j, p, h => by simp at h
  | q :: r, k, hd, j, p, h => by
    have hs : ixFrom (fun q : Plc => q.mod.name == p.mod.name) k (q :: r) = if (q.mod.name == p.mod.name) = true then (k : Int) else ixFrom (fun q : Plc => q.mod.name == p.mod.name) (k + 1) r := rfl
    rw [hs]
    rw [List.map_cons, List.nodup_cons] at hd
    cases j with
    | zero =>
      obtain rfl : q = p := by simpa using h
      rw [if_pos ((Go.MapKept.bytes_beq _ _).2 rfl)]
      rfl
    | succ j =>
      have h' : r[j]? = some p := by simpa using h
      rw [if_neg (fun e => hd.1 (by
        rw [(Go.MapKept.bytes_beq _ _).1 e]
        exact List.mem_map_of_mem (List.mem_of_getElem? h'))), ix_name (k + 1) hd.2 h']
      congr 1; omega
theorem ix_mem {L : List Plc} (hd : (L.map (·.mod.name)).Nodup) {p : Plc} (hp : p ∈ L) : ∃ j : Nat, L[j]? = some p ∧ ixFrom (fun q : Plc => q.mod.name == p.mod.name) 0 L = (j : Int) := by
  obtain ⟨j, hj⟩ := List.mem_iff_getElem?.1 hp
  exact ⟨j, hj, by rw [ix_name 0 hd hj, Nat.zero_add]⟩
theorem ix_pv {l : List PV} (hd : ((l.map PV.plc).map (·.mod.name)).Nodup) {p : Plc} (hp : p ∈ l.map PV.plc) : ∃ (j : Nat) (x : PV), l[j]? = some x ∧ x.plc = p ∧ ixFrom (fun z : PV => z.mod.name == p.mod.name) 0 l = (j : Int) := by
  obtain ⟨j, h1, h2⟩ := ix_mem hd hp
  rw [ix_map] at h2
  rw [List.getElem?_map] at h1
  cases hx : l[j]? with
  | none => rw [hx] at h1; cases h1
  | some x =>
    rw [hx] at h1
    exact ⟨j, x, hx, by simpa using h1, h2⟩
/-- None lies in the way of another one. -/
theorem ok_apart : ∀ {L : List Plc} {e : Int} {j : Nat} {p : Plc}, okPl e L → L[j]? = some p → ∀ q ∈ L.eraseIdx j, q.first + szM q.mod ≤ p.first ∨ p.first + szM p.mod ≤ q.first
  | [], _, j, p, _, h => by simp at h
  | x :: r, e, 0, p, ho, h => by
    obtain ⟨h1, h2, h3, h4⟩ := ho
    obtain rfl : x = p := by simpa using h
    intro q hq
    exact .inr (okPl_first h4 q hq).1
  | x :: r, e, j + 1, p, ho, h => by
    obtain ⟨h1, h2, h3, h4⟩ := ho
    have h' : r[j]? = some p := by simpa using h
    intro q hq
    rw [List.eraseIdx_cons_succ] at hq
    rcases List.mem_cons.1 hq with rfl | hq
    · exact .inl (okPl_first h4 p (List.mem_of_getElem? h')).1
    · exact ok_apart h4 h' q hq
/-- The document's way to tell whether there is room where another one was. -/
theorem room_doc {L : List Plc} {j : Nat} {p : Plc} {many : Int} (h0 : chkReg L = 0) (hp : L[j]? = some p) (hm : 1 ≤ many) :
    ((runsFrom 0 (L.eraseIdx j)).any fun r => decide (r.1 ≤ p.first) && decide (p.first + many ≤ r.1 + r.2)) = true ↔ (p.first + many ≤ 16 ∧ ∀ q ∈ L.eraseIdx j, ¬ (p.first < q.first ∧ q.first < p.first + many)) := by
  have ho := (chkReg_zero.1 h0).2.2
  have hf := okPl_first ho p (List.mem_of_getElem? hp)
  refine room_runs hm (ok_less j ho) hf.1 (fun q hq => ?_)
  rcases ok_apart ho hp q hq with g | g
  · exact .inl g
  · exact .inr (by omega)
/-- What is no greater finds room where it was. -/
theorem room_same {L : List Plc} {j : Nat} {p : Plc} {many : Nat} (h0 : chkReg L = 0) (hp : L[j]? = some p) (hm : 1 ≤ many) (hs : many ≤ szM p.mod) : roomOf (L.eraseIdx j) p.first many = some p.first := by
  have ho := (chkReg_zero.1 h0).2.2
  have hf := okPl_first ho p (List.mem_of_getElem? hp)
  unfold roomOf
  rw [if_pos]
  refine (room_doc h0 hp (by omega)).2 ⟨by omega, fun q hq => ?_⟩
  rcases ok_apart ho hp q hq with g | g
  · have := (okPl_first (ok_less j ho) q hq).2.1
    omega
  · omega
theorem any_name_false {L : List Plc} {n : ByteArray} (h : (L.any fun p => p.mod.name == n) = false) : ∀ p ∈ L, p.mod.name ≠ n := fun p hp e => by
  rw [List.any_eq_false] at h
  exact h p hp ((Go.MapKept.bytes_beq _ _).2 e)
/-- What Install does, if it does. -/
theorem inst_ok {K : Ker} {L : List Plc} {M : Mod} (h : (planRes K L (instDo L M)).2 = 0) : chkRg K L = 0 ∧ chkMod M = 0 ∧ (∀ p ∈ L, p.mod.name ≠ M.name) ∧ L.length < 8 ∧ ∃ f, firstRes L (szM M) = (f, 0) ∧ instDo L M = (putAt L ⟨M, f⟩, 0) ∧ chkRg K (putAt L ⟨M, f⟩) = 0 ∧ planRes K L (instDo L M) = ((K, putAt L ⟨M, f⟩), 0) := by
  rcases plan_cases K L (instDo L M) with ⟨h1, e⟩ | ⟨_, h1, e⟩ | ⟨_, _, h1, e⟩ | ⟨h1, h2, h3, e⟩
  · rw [e] at h; exact absurd h h1
  · rw [e] at h; exact absurd h h1
  · rw [e] at h; exact absurd h h1
  · have hd : ∀ D, D = instDo L M → D.2 = 0 → chkMod M = 0 ∧ (L.any fun p => p.mod.name == M.name) = false ∧ L.length < 8 ∧ ∃ r, fitOf (szM M) (runsFrom 0 L) = some r ∧ D = (putAt L ⟨M, r.1⟩, 0) := by
      intro D hD hz
      unfold instDo at hD
      by_cases c1 : chkMod M = 0
      · rw [if_neg (by omega)] at hD
        cases c2 : (L.any fun p => p.mod.name == M.name) with
        | true => rw [c2, if_pos rfl] at hD; subst hD; cases hz
        | false =>
          rw [c2, if_neg (by decide)] at hD
          by_cases c3 : 8 ≤ L.length
          · rw [if_pos c3] at hD; subst hD; cases hz
          · rw [if_neg c3] at hD
            cases c4 : fitOf (szM M) (runsFrom 0 L) with
            | none => rw [c4] at hD; subst hD; cases hz
            | some r => rw [c4] at hD; exact ⟨c1, rfl, by omega, r, rfl, hD⟩
      · rw [if_pos c1] at hD; subst hD; exact absurd hz c1
    obtain ⟨c1, c2, c3, r, c4, c5⟩ := hd _ rfl h2
    have hs := szM_bd c1
    refine ⟨h1, c1, any_name_false c2, c3, r.1, ?_, c5, by rw [c5] at h3; exact h3, by rw [e, c5]⟩
    unfold firstRes
    rw [if_neg (by rw [rg_reg h1]; simp), if_neg (by omega), c4]
theorem rem_ok {K : Ker} {L : List Plc} {name : ByteArray} (h : (planRes K L (remDo L name)).2 = 0) : chkRg K L = 0 ∧ ∃ (j : Nat) (p : Plc), nameIx L name = (j : Int) ∧ L[j]? = some p ∧ p.mod.name = name ∧ (∀ p ∈ L, asksM p.mod name = false) ∧ remDo L name = (L.eraseIdx j, 0) ∧ chkRg K (L.eraseIdx j) = 0 ∧ planRes K L (remDo L name) = ((K, L.eraseIdx j), 0) := by
  rcases plan_cases K L (remDo L name) with ⟨h1, e⟩ | ⟨_, h1, e⟩ | ⟨_, _, h1, e⟩ | ⟨h1, h2, h3, e⟩
  · rw [e] at h; exact absurd h h1
  · rw [e] at h; exact absurd h h1
  · rw [e] at h; exact absurd h h1
  · rcases ix_spec (fun p : Plc => p.mod.name == name) L 0 with ⟨g1, _⟩ | ⟨j, p, g1, g2, g3, _⟩
    · rw [remDo_none g1] at h2; cases h2
    · rw [Nat.zero_add] at g1
      have hr := remDo_at (L := L) (name := name) g1
      unfold remAt at hr
      cases ha : (L.any fun p => asksM p.mod name) with
      | true => rw [ha, if_pos rfl] at hr; rw [hr] at h2; cases h2
      | false =>
        rw [ha, if_neg (by decide)] at hr
        refine ⟨h1, j, p, g1, g2, (Go.MapKept.bytes_beq _ _).1 g3, fun q hq => ?_, hr, by rw [hr] at h3; exact h3, by rw [e, hr]⟩
        rw [List.any_eq_false] at ha
        simpa using ha q hq
theorem up_ok {K : Ker} {L : List Plc} {M : Mod} (h : (planRes K L (upDo L M)).2 = 0) : chkRg K L = 0 ∧ chkMod M = 0 ∧ ∃ (j : Nat) (p : Plc) (f : Int), nameIx L M.name = (j : Int) ∧ L[j]? = some p ∧ p.mod.name = M.name ∧ roomOf (L.eraseIdx j) p.first (szM M) = some f ∧ upDo L M = (putAt (L.eraseIdx j) ⟨M, f⟩, 0) ∧ chkRg K (putAt (L.eraseIdx j) ⟨M, f⟩) = 0 ∧ planRes K L (upDo L M) = ((K, putAt (L.eraseIdx j) ⟨M, f⟩), 0) := by
  rcases plan_cases K L (upDo L M) with ⟨h1, e⟩ | ⟨_, h1, e⟩ | ⟨_, _, h1, e⟩ | ⟨h1, h2, h3, e⟩
  · rw [e] at h; exact absurd h h1
  · rw [e] at h; exact absurd h h1
  · rw [e] at h; exact absurd h h1
  · by_cases c1 : chkMod M = 0
    · rcases ix_spec (fun p : Plc => p.mod.name == M.name) L 0 with ⟨g1, _⟩ | ⟨j, p, g1, g2, g3, _⟩
      · rw [upDo_none c1 g1] at h2; cases h2
      · rw [Nat.zero_add] at g1
        have hr := upDo_at (L := L) c1 g1 g2
        cases hf : roomOf (L.eraseIdx j) p.first (szM M) with
        | none => rw [hr, hf] at h2; cases h2
        | some f =>
          rw [hf] at hr
          have hr' : upDo L M = (putAt (L.eraseIdx j) ⟨M, f⟩, 0) := hr
          exact ⟨h1, c1, j, p, f, g1, g2, (Go.MapKept.bytes_beq _ _).1 g3, hf, hr', by rw [hr'] at h3; exact h3, by rw [e, hr']⟩
    · rw [upDo_bad c1] at h2; exact absurd h2 c1

end Go.Proofs.YthmohjgdcjafkaeGreat

/- The contracts of the document's CheckKernel, CheckModules, exportAt, PlaceOf. -/
namespace Go.Proofs.YthmohjgdcjafkaeGreat
open Go.RowKit Go.PlainAid

set_option maxRecDepth 100000

set_option maxHeartbeats 1000000 in
theorem checkKernel_any (K : Ker) (v : Value) (w : World) (hK : IsKer w.heap.size w v K) (hf : K.fits) :
    Calls Tryz.prog 84 #[v] w fun e w' => e = .returned (.int .i64 (chkKer K)) ∧ Below w.heap.size w w' := by
  obtain ⟨ve, rfl, hE⟩ := hK
  have HE : Hid (∀ w', Below w.heap.size w w' → K.exps.length ≤ 8 → Calls Tryz.prog 91 #[ve, .int .i64 4096] w' fun e w'' => e = .returned (.int .i64 (chkExps 4096 [] K.exps)) ∧ Below w'.heap.size w' w'') :=
    fun w' hb hl => checkExports_any K.exps ve _ w' ((hE.below hb).more hb.size) hf hl (by decide) (by decide)
  obtain ⟨pe, ke, rfl, _, hE⟩ := hE
  clear hE hf
  have key : (betw K.major 0 255 = false ∧ chkKer K = 3) ∨ (betw K.major 0 255 = true ∧ betw K.minor 0 255 = false ∧ chkKer K = 3) ∨ (betw K.major 0 255 = true ∧ betw K.minor 0 255 = true ∧ 8 < K.exps.length ∧ chkKer K = 2) ∨ (betw K.major 0 255 = true ∧ betw K.minor 0 255 = true ∧ K.exps.length ≤ 8 ∧ chkKer K = chkExps 4096 [] K.exps) := by
    unfold chkKer isVer
    cases h1 : betw K.major 0 255
    · exact .inl ⟨rfl, rfl⟩
    cases h2 : betw K.minor 0 255
    · exact .inr (.inl ⟨rfl, rfl, rfl⟩)
    · by_cases h3 : 8 < K.exps.length
      · exact .inr (.inr (.inl ⟨rfl, rfl, h3, by rw [if_neg (by decide), if_pos h3]⟩))
      · exact .inr (.inr (.inr ⟨rfl, rfl, by omega, by rw [if_neg (by decide), if_neg h3]⟩))
  generalize chkKer K = R at *
  generalize chkExps 4096 [] K.exps = ce at *
  obtain ⟨ma, mi, es⟩ := K
  dsimp only at *
  generalize es.length = le at *
  have HW1 : Hid (Below w.heap.size w (w.alloc (.cells #[.int .i64 ma, .int .i64 mi, .slice pe le ke] 24))) := (Below.refl _ _).alloc (Nat.le_refl _) _
  rcases key with ⟨h1, rfl⟩ | ⟨h1, h2, rfl⟩ | ⟨h1, h2, h3, rfl⟩ | ⟨h1, h2, h3, rfl⟩
  · go_enter Tryz.func84, Tryz.ntmps84
    go_wp2_with (go_at_call 90; refine (between_any _ _ _ _).mono ?_; rintro e w' ⟨rfl, rfl⟩)
    go_ret
    exact ⟨rfl, HW1.out⟩
  · go_enter Tryz.func84, Tryz.ntmps84
    go_wp2_with (go_at_call 90; refine (between_any _ _ _ _).mono ?_; rintro e w' ⟨rfl, rfl⟩)
    go_ret
    exact ⟨rfl, HW1.out⟩
  · have h3' : (8 : Int) < le := by omega
    go_enter Tryz.func84, Tryz.ntmps84
    go_wp2_with (go_at_call 90; refine (between_any _ _ _ _).mono ?_; rintro e w' ⟨rfl, rfl⟩)
    go_ret
    exact ⟨rfl, HW1.out⟩
  · have h3' : decide ((8 : Int) < le) = false := decide_eq_false (by omega)
    have h3'' : decide (8 < le) = false := decide_eq_false (by omega)
    go_enter Tryz.func84, Tryz.ntmps84
    go_wp2_with (go_at_call 90; refine (between_any _ _ _ _).mono ?_; rintro e w' ⟨rfl, rfl⟩)
    refine (HE.out _ HW1.out h3).mono ?_
    rintro e w1 ⟨rfl, b1⟩
    go_wp2
    go_ret
    exact ⟨rfl, HW1.out.trans (b1.mono HW1.out.size)⟩

theorem chkPls_step2 (x : PV) (l : List PV) : (chkMod x.mod ≠ 0 ∧ chkPls ((x :: l).map PV.plc) = chkMod x.mod) ∨ (chkMod x.mod = 0 ∧ betw x.first 0 15 = false ∧ chkPls ((x :: l).map PV.plc) = 3) ∨ (chkMod x.mod = 0 ∧ betw x.first 0 15 = true ∧ chkPls ((x :: l).map PV.plc) = chkPls (l.map PV.plc)) := by
  have hs : chkPls ((x :: l).map PV.plc) = if chkMod x.mod ≠ 0 then chkMod x.mod else if betw x.first 0 15 = false then 3 else chkPls (l.map PV.plc) := rfl
  rw [hs]
  by_cases h0 : chkMod x.mod = 0
  · cases h1 : betw x.first 0 15
    · exact .inr (.inl ⟨h0, rfl, by rw [if_neg (by omega), if_pos rfl]⟩)
    · exact .inr (.inr ⟨h0, rfl, by rw [if_neg (by omega), if_neg (by decide)]⟩)
  · exact .inl ⟨h0, by rw [if_pos h0]⟩

set_option maxHeartbeats 2000000 in
theorem checkModules_any (l : List PV) (v : Value) (w : World) (hrow : IsPlcs w.heap.size w v l) (hfit : ∀ x ∈ l, x.mod.fits) :
    Calls Tryz.prog 124 #[v, .bool true, .bool false] w fun e w' => e = .returned (.int .i64 (chkPlaced (l.map PV.plc))) ∧ Below w.heap.size w w' := by
  have HC0 : Hid (∀ x ∈ l, ∀ W, Below w.heap.size w W → Calls Tryz.prog 44 #[x.modV] W fun e w' => e = .returned (.int .i64 (chkMod x.mod)) ∧ Below W.heap.size W w') := fun x hx W hb => checkModule_any x.mod x.modV W (((hrow.2 x hx).below hb).more hb.size |>.isMod) (hfit x hx)
  have hat := hrow.2
  obtain ⟨⟨a, cap, rfl, _, hrow⟩, _⟩ := hrow
  by_cases h8 : 8 < l.length
  · have e1 : chkPlaced (l.map PV.plc) = 2 := by
      unfold chkPlaced
      rw [if_pos (by simpa using h8)]
    rw [e1]
    have h8' : (8 : Int) < l.length := by omega
    clear e1 HC0 hat hrow
    go_enter Tryz.func124, Tryz.ntmps124
    go_wp2
    go_ret
    exact ⟨rfl, Below.refl _ _⟩
  · have e1 : chkPlaced (l.map PV.plc) = chkPls (l.map PV.plc) := by
      unfold chkPlaced
      rw [if_neg (by simpa using h8)]
    rw [e1]
    have h8' : decide ((8 : Int) < l.length) = false := decide_eq_false (by omega)
    have h8'' : decide (8 < l.length) = false := decide_eq_false (by omega)
    clear e1
    go_enter Tryz.func124, Tryz.ntmps124
    go_wp2_with fail
    go_loopw [7] (fun i wr => ∃ (k : Nat), k ≤ l.length ∧ i = .int .i64 k ∧ Hid (chkPls (l.map PV.plc) = chkPls ((l.drop k).map PV.plc)) ∧ Below w.heap.size w wr) (fun i _ => l.length - (intOf i).toNat)
    case atStart => exact ⟨0, Nat.zero_le _, rfl, by show chkPls (l.map PV.plc) = chkPls ((l.drop 0).map PV.plc); rfl, Below.refl _ _⟩
    case round =>
      obtain ⟨k, hk, rfl, HC, B⟩ := hrel
      by_cases hlt : k < l.length
      · obtain ⟨x, hx⟩ : ∃ x, l[k]? = some x := ⟨_, List.getElem?_eq_getElem hlt⟩
        rcases hrow with h | ⟨b, off, rfl, hbn, hcells⟩
        · subst h; simp at hlt
        have key := chkPls_step2 x (l.drop (k + 1))
        have HR : Hid (chkPls (l.map PV.plc) = chkPls ((x :: l.drop (k + 1)).map PV.plc)) := by
          show chkPls (l.map PV.plc) = _
          rw [HC.out, drop_at hx]
        have HM : Hid (∀ W, Below w.heap.size w W → Calls Tryz.prog 44 #[x.modV] W fun e w' => e = .returned (.int .i64 (chkMod x.mod)) ∧ Below W.heap.size W w') := HC0.out x (List.mem_of_getElem? hx)
        obtain ⟨⟨pe, ke, e4, _⟩, ⟨pi, ki, e5, _⟩, ⟨pp, kp, e6, _⟩⟩ := hat x (List.mem_of_getElem? hx)
        obtain ⟨⟨N, ma, mi, T, es, is, ps⟩, ve, vi, vp, fi⟩ := x
        dsimp only at e4 e5 e6
        subst e4 e5 e6
        have c0 := (B.cell (p := ⟨b, off + k * 8 + 0, none⟩) hbn).trans (hcells k _ hx 0 (by omega))
        have c1 := (B.cell (p := ⟨b, off + k * 8 + 1, none⟩) hbn).trans (hcells k _ hx 1 (by omega))
        have c2 := (B.cell (p := ⟨b, off + k * 8 + 2, none⟩) hbn).trans (hcells k _ hx 2 (by omega))
        have c3 := (B.cell (p := ⟨b, off + k * 8 + 3, none⟩) hbn).trans (hcells k _ hx 3 (by omega))
        have c4 := (B.cell (p := ⟨b, off + k * 8 + 4, none⟩) hbn).trans (hcells k _ hx 4 (by omega))
        have c5 := (B.cell (p := ⟨b, off + k * 8 + 5, none⟩) hbn).trans (hcells k _ hx 5 (by omega))
        have c6 := (B.cell (p := ⟨b, off + k * 8 + 6, none⟩) hbn).trans (hcells k _ hx 6 (by omega))
        have q7 := hcells k _ hx 7 (by omega)
        dsimp only [PV.cell, PV.modV] at c0 c1 c2 c3 c4 c5 c6 q7 HM
        rw [Nat.add_zero] at c0
        clear HC HC0 hcells hx hat
        dsimp only at key
        generalize chkMod ⟨N, ma, mi, T, es, is, ps⟩ = cm at key HM
        generalize chkPls (List.map PV.plc (⟨⟨N, ma, mi, T, es, is, ps⟩, .slice pe es.length ke, .slice pi is.length ki, .slice pp ps.length kp, fi⟩ :: l.drop (k + 1))) = R at key HR
        generalize es.length = le at *
        generalize is.length = li at *
        generalize ps.length = lp at *
        go_wp2_with fail
        refine (HM.out _ B).mono ?_
        rintro e w2 ⟨rfl, b2⟩
        have B2 := B.trans (b2.mono B.size)
        have X7 := (B2.cell (p := ⟨b, off + k * 8 + 7, none⟩) hbn).trans q7
        clear b2 c0 c1 c2 c3 c4 c5 c6 q7 HM
        rcases key with ⟨h1, rfl⟩ | ⟨rfl, h2, rfl⟩ | ⟨rfl, h2, rfl⟩
        · have h1' : (R != 0) = true := by simpa using h1
          go_wp2
          go_ret
          exact ⟨by rw [HR.out]; rfl, B2⟩
        · go_wp2_with (go_at_call 90; refine (between_any _ _ _ _).mono ?_; rintro e w' ⟨rfl, rfl⟩)
          go_ret
          exact ⟨by rw [HR.out]; rfl, B2⟩
        · go_wp2_with (go_at_call 90; refine (between_any _ _ _ _).mono ?_; rintro e w' ⟨rfl, rfl⟩)
          exact ⟨⟨k + 1, by omega, by go_num, HR.out, B2⟩, by simp [intOf]; omega⟩
      · obtain rfl : k = l.length := by omega
        have HZ : Hid (chkPls (l.map PV.plc) = 0) := by
          show chkPls (l.map PV.plc) = 0
          rw [HC.out, List.drop_length]; rfl
        go_wp2
        go_ret
        exact ⟨by rw [HZ.out]; rfl, B⟩

def posOf : Option Exp → Int
  | none => -1
  | some x => x.pos

set_option maxHeartbeats 1000000 in
theorem exportAt_any (l : List Exp) (v : Value) (name : ByteArray) (w : World) (hrow : RowOf 2 Exp.cell w.heap.size w v l) :
    Calls Tryz.prog 164 #[v, .string name] w fun e w' => e = .returned (.int .i64 (posOf (expOf l name))) ∧ Below w.heap.size w w' := by
  obtain ⟨a, cap, rfl, _, hrow⟩ := hrow
  go_enter Tryz.func164, Tryz.ntmps164
  go_wp2_with fail
  go_loopw [5] (fun i wr => ∃ (k : Nat), k ≤ l.length ∧ i = .int .i64 k ∧ Hid (expOf l name = expOf (l.drop k) name) ∧ Below w.heap.size w wr) (fun i _ => l.length - (intOf i).toNat)
  case atStart => exact ⟨0, Nat.zero_le _, rfl, by show expOf l name = expOf (l.drop 0) name; rfl, Below.refl _ _⟩
  case round =>
    obtain ⟨k, hk, rfl, HC, B⟩ := hrel
    by_cases hlt : k < l.length
    · obtain ⟨x, hx⟩ : ∃ x, l[k]? = some x := ⟨_, List.getElem?_eq_getElem hlt⟩
      rcases hrow with h | ⟨b, off, rfl, hbn, hcells⟩
      · subst h; simp at hlt
      have c0 := (B.cell (p := ⟨b, off + k * 2 + 0, none⟩) hbn).trans (hcells k _ hx 0 (by omega))
      have c1 := (B.cell (p := ⟨b, off + k * 2 + 1, none⟩) hbn).trans (hcells k _ hx 1 (by omega))
      dsimp only [Exp.cell] at c0 c1
      rw [Nat.add_zero] at c0
      have hC := HC.out
      rw [drop_at hx] at hC
      unfold expOf at hC
      rw [List.find?_cons] at hC
      cases hq : x.name == name
      · rw [hq] at hC
        have HR : Hid (expOf l name = expOf (l.drop (k + 1)) name) := hC
        clear hC HC hcells hx
        rw [← toList_beq2] at hq
        go_wp2
        exact ⟨⟨k + 1, by omega, by go_num, HR.out, B⟩, by simp [intOf]; omega⟩
      · rw [hq] at hC
        have HR : Hid (expOf l name = some x) := hC
        clear hC HC hcells hx
        rw [← toList_beq2] at hq
        go_wp2
        go_ret
        exact ⟨by rw [HR.out]; rfl, B⟩
    · obtain rfl : k = l.length := by omega
      have HZ : Hid (expOf l name = none) := by
        show expOf l name = none
        rw [HC.out, List.drop_length]; rfl
      go_wp2
      go_ret
      exact ⟨by rw [HZ.out]; rfl, B⟩

set_option maxHeartbeats 1000000 in
theorem placeOf_any (l : List PV) (v : Value) (name : ByteArray) (w : World) (hrow : RowOf 8 PV.cell w.heap.size w v l) :
    Calls Tryz.prog 45 #[v, .string name] w fun e w' => e = .returned (.int .i64 (idxFrom (fun x : PV => x.mod.name == name) 0 l)) ∧ Below w.heap.size w w' := by
  obtain ⟨a, cap, rfl, _, hrow⟩ := hrow
  have HST : Hid (∀ k x r, idxFrom (fun x : PV => x.mod.name == name) k (x :: r) = if (x.mod.name == name) = true then (k : Int) else idxFrom (fun x : PV => x.mod.name == name) (k + 1) r) := fun _ _ _ => rfl
  have HNL : Hid (∀ k, idxFrom (fun x : PV => x.mod.name == name) k [] = -1) := fun _ => rfl
  generalize idxFrom (fun x : PV => x.mod.name == name) = IX at *
  go_enter Tryz.func45, Tryz.ntmps45
  go_wp2_with fail
  go_loopw [5] (fun i wr => ∃ (k : Nat), k ≤ l.length ∧ i = .int .i64 k ∧ Hid (IX 0 l = IX k (l.drop k)) ∧ Below w.heap.size w wr) (fun i _ => l.length - (intOf i).toNat)
  case atStart => exact ⟨0, Nat.zero_le _, rfl, by show IX 0 l = IX 0 (l.drop 0); rfl, Below.refl _ _⟩
  case round =>
    obtain ⟨k, hk, rfl, HC, B⟩ := hrel
    by_cases hlt : k < l.length
    · obtain ⟨x, hx⟩ : ∃ x, l[k]? = some x := ⟨_, List.getElem?_eq_getElem hlt⟩
      rcases hrow with h | ⟨b, off, rfl, hbn, hcells⟩
      · subst h; simp at hlt
      have c0 := (B.cell (p := ⟨b, off + k * 8 + 0, none⟩) hbn).trans (hcells k _ hx 0 (by omega))
      dsimp only [PV.cell] at c0
      rw [Nat.add_zero] at c0
      have hC := HC.out
      rw [drop_at hx, HST.out] at hC
      cases hq : x.mod.name == name
      · rw [hq, if_neg (by decide)] at hC
        have HR : Hid (IX 0 l = IX (k + 1) (l.drop (k + 1))) := hC
        clear hC HC hcells hx
        rw [← toList_beq2] at hq
        go_wp2
        exact ⟨⟨k + 1, by omega, by go_num, HR.out, B⟩, by simp [intOf]; omega⟩
      · rw [hq, if_pos rfl] at hC
        have HR : Hid (IX 0 l = k) := hC
        clear hC HC hcells hx
        rw [← toList_beq2] at hq
        go_wp2
        go_ret
        exact ⟨by rw [HR.out]; rfl, B⟩
    · obtain rfl : k = l.length := by omega
      have HZ : Hid (IX 0 l = -1) := by
        show IX 0 l = -1
        rw [HC.out, List.drop_length, HNL.out]
      go_wp2
      go_ret
      exact ⟨by rw [HZ.out]; rfl, B⟩

end Go.Proofs.YthmohjgdcjafkaeGreat

/- The contract of the statements' others, where all others are the same. -/
namespace Go.Proofs.YthmohjgdcjafkaeGreat
open Go.RowKit Go.PlainAid Go.Lib Go.Sort Go.BigFrame

set_option maxRecDepth 100000

theorem idx_ix {α : Type} (p : α → Bool) : ∀ (q : List α) (k : Nat), idxFrom p k q = ixFrom p k q
  | [], _ => rfl
  | x :: q, k => by
    have h1 : idxFrom p k (x :: q) = if p x then (k : Int) else idxFrom p (k + 1) q := rfl
    have h2 : ixFrom p k (x :: q) = if p x then (k : Int) else ixFrom p (k + 1) q := rfl
    rw [h1, h2, idx_ix p q (k + 1)]

set_option maxHeartbeats 8000000 in
theorem others_any (K K' : Ker) (l l' : List PV) (v v' : Value) (name : ByteArray) (w : World) (h : IsReg w.heap.size w v K l) (h' : IsReg w.heap.size w v' K' l') (hall : ∀ x ∈ l, x.mod.name ≠ name → ∃ (j : Nat) (y : PV), l'[j]? = some y ∧ ixFrom (fun z : PV => z.mod.name == x.mod.name) 0 l' = (j : Int) ∧ y.plc = x.plc) :
    Calls Tryz.prog 20 #[v, v', .string name] w fun e w' => e = .returned (.bool true) ∧ Below w.heap.size w w' := by
  obtain ⟨ve, vl, rfl, hE, hL⟩ := h
  obtain ⟨ve', vl', rfl, hE', hL'⟩ := h'
  have HPO : Hid (∀ (x : ByteArray) W, Below w.heap.size w W → Calls Tryz.prog 45 #[vl', .string x] W fun e w' => e = .returned (.int .i64 (ixFrom (fun z : PV => z.mod.name == x) 0 l')) ∧ Below W.heap.size W w') := fun x W hb => by
    have := placeOf_any l' vl' x W ((hL'.1.below hb).more hb.size)
    rw [idx_ix] at this
    exact this
  have HIX : Hid (∀ x ∈ l, ixFrom (fun z : PV => z.mod.name == x.mod.name) 0 l' < 0 ∨ ∃ j : Nat, j < l'.length ∧ ixFrom (fun z : PV => z.mod.name == x.mod.name) 0 l' = (j : Int)) := fun x _ => by
    rcases ix_spec (fun z : PV => z.mod.name == x.mod.name) l' 0 with ⟨g, _⟩ | ⟨j, y, g, hy, _⟩
    · exact .inl (by rw [g]; decide)
    · exact .inr ⟨j, (List.getElem?_eq_some_iff.1 hy).1, by rw [g]; congr 1; omega⟩
  have HAL : Hid (∀ x ∈ l, x.mod.name ≠ name → ∃ (j : Nat) (y : PV), l'[j]? = some y ∧ ixFrom (fun z : PV => z.mod.name == x.mod.name) 0 l' = (j : Int) ∧ y.plc = x.plc) := hall
  obtain ⟨qe, je, rfl, -, -⟩ := hE
  obtain ⟨qe', je', rfl, -, -⟩ := hE'
  obtain ⟨⟨a, cap, rfl, hmax, hrow⟩, hat⟩ := hL
  obtain ⟨⟨a', cap', rfl, hmax', hrow'⟩, hat'⟩ := hL'
  have HRW : Hid (l = [] ∨ ∃ b off, a = some ⟨b, off, none⟩ ∧ b < w.heap.size ∧ ∀ j x, l[j]? = some x → ∀ i, i < 8 → w.cell? ⟨b, off + j * 8 + i, none⟩ = some (PV.cell x i)) := hrow
  have HRW' : Hid (l' = [] ∨ ∃ b off, a' = some ⟨b, off, none⟩ ∧ b < w.heap.size ∧ ∀ j x, l'[j]? = some x → ∀ i, i < 8 → w.cell? ⟨b, off + j * 8 + i, none⟩ = some (PV.cell x i)) := hrow'
  have HAT : Hid (∀ x ∈ l, PlcAt w.heap.size w x) := hat
  have HAT' : Hid (∀ x ∈ l', PlcAt w.heap.size w x) := hat'
  clear hall hrow hrow' hat hat'
  generalize K.exps.length = lk at *
  generalize K'.exps.length = lk' at *
  have B1 : Below w.heap.size w ((w.alloc (.cells #[.int .i64 K.major, .int .i64 K.minor, .slice qe lk je, .slice a l.length cap] 27)).alloc (.cells #[.int .i64 K'.major, .int .i64 K'.minor, .slice qe' lk' je', .slice a' l'.length cap'] 27)) := ((Below.refl _ _).alloc (Nat.le_refl _) _).alloc (by simp) _
  have C1 : CellsAt ((w.alloc (.cells #[.int .i64 K.major, .int .i64 K.minor, .slice qe lk je, .slice a l.length cap] 27)).alloc (.cells #[.int .i64 K'.major, .int .i64 K'.minor, .slice qe' lk' je', .slice a' l'.length cap'] 27)) w.heap.size 27 #[.int .i64 K.major, .int .i64 K.minor, .slice qe lk je, .slice a l.length cap] := (CellsAt.new w 27 #[.int .i64 K.major, .int .i64 K.minor, .slice qe lk je, .slice a l.length cap]).kept (World.grownBy_alloc _ _ none) (by simp)
  have D1 : CellsAt ((w.alloc (.cells #[.int .i64 K.major, .int .i64 K.minor, .slice qe lk je, .slice a l.length cap] 27)).alloc (.cells #[.int .i64 K'.major, .int .i64 K'.minor, .slice qe' lk' je', .slice a' l'.length cap'] 27)) (w.heap.size + 1) 27 #[.int .i64 K'.major, .int .i64 K'.minor, .slice qe' lk' je', .slice a' l'.length cap'] := by
    have := CellsAt.new (w.alloc (.cells #[.int .i64 K.major, .int .i64 K.minor, .slice qe lk je, .slice a l.length cap] 27)) 27 #[.int .i64 K'.major, .int .i64 K'.minor, .slice qe' lk' je', .slice a' l'.length cap']
    rw [World.size_alloc] at this
    exact this
  go_enter Tryz.func20, Tryz.ntmps20
  go_wp2
  generalize ((w.alloc (.cells #[.int .i64 K.major, .int .i64 K.minor, .slice qe lk je, .slice a l.length cap] 27)).alloc (.cells #[.int .i64 K'.major, .int .i64 K'.minor, .slice qe' lk' je', .slice a' l'.length cap'] 27)) = w1 at *
  go_loopg [7] l.length (fun gk i wr => ∃ (k : Nat), Hid (gk = l.length - k) ∧ k ≤ l.length ∧ i = .int .i64 k ∧ Hid (Below w.heap.size w wr) ∧ Hid (CellsAt wr w.heap.size 27 #[.int .i64 K.major, .int .i64 K.minor, .slice qe lk je, .slice a l.length cap]) ∧ Hid (CellsAt wr (w.heap.size + 1) 27 #[.int .i64 K'.major, .int .i64 K'.minor, .slice qe' lk' je', .slice a' l'.length cap']))
  case atStart => exact ⟨0, (rfl : l.length = l.length - 0), Nat.zero_le _, rfl, B1, C1, D1⟩
  case round =>
    clear B1 C1 D1
    obtain ⟨k, HGK, hk, rfl, HB, HC, HD⟩ := hrel
    have p3 := CellsAt.cell HC.out 3
    have pl := CellsAt.lt HC.out
    simp at p3
    by_cases hlt : k < l.length
    · obtain ⟨x, hx⟩ : ∃ x, l[k]? = some x := ⟨_, List.getElem?_eq_getElem hlt⟩
      have hxm := List.mem_of_getElem? hx
      rcases HRW.out with h | ⟨b, off, rfl, hbn, hcells⟩
      · subst h; simp at hlt
      have px := ((HAT.out x hxm).below HB.out).more HB.out.size
      have c0 := (HB.out.cell (p := ⟨b, off + k * 8 + 0, none⟩) hbn).trans (hcells k x hx 0 (by omega))
      have c1 := (HB.out.cell (p := ⟨b, off + k * 8 + 1, none⟩) hbn).trans (hcells k x hx 1 (by omega))
      have c2 := (HB.out.cell (p := ⟨b, off + k * 8 + 2, none⟩) hbn).trans (hcells k x hx 2 (by omega))
      have c3 := (HB.out.cell (p := ⟨b, off + k * 8 + 3, none⟩) hbn).trans (hcells k x hx 3 (by omega))
      have c4 := (HB.out.cell (p := ⟨b, off + k * 8 + 4, none⟩) hbn).trans (hcells k x hx 4 (by omega))
      have c5 := (HB.out.cell (p := ⟨b, off + k * 8 + 5, none⟩) hbn).trans (hcells k x hx 5 (by omega))
      have c6 := (HB.out.cell (p := ⟨b, off + k * 8 + 6, none⟩) hbn).trans (hcells k x hx 6 (by omega))
      have c7 := (HB.out.cell (p := ⟨b, off + k * 8 + 7, none⟩) hbn).trans (hcells k x hx 7 (by omega))
      have HPX : Hid (PlcAt wr.heap.size wr x) := px
      have HXX : Hid (x ∈ l) := hxm
      have HAX : Hid (x.mod.name ≠ name → ∃ (j : Nat) (y : PV), l'[j]? = some y ∧ ixFrom (fun z : PV => z.mod.name == x.mod.name) 0 l' = (j : Int) ∧ y.plc = x.plc) := HAL.out x hxm
      have HJX : Hid (ixFrom (fun z : PV => z.mod.name == x.mod.name) 0 l' < 0 ∨ ∃ j : Nat, j < l'.length ∧ ixFrom (fun z : PV => z.mod.name == x.mod.name) 0 l' = (j : Int)) := HIX.out x hxm
      obtain ⟨⟨pe, ke, e4, -⟩, ⟨pi, ki, e5, -⟩, ⟨pp, kp, e6, -⟩⟩ := px
      obtain ⟨⟨N, xa, xi, T, es, is, ps⟩, vxe, vxi, vxp, fi⟩ := x
      dsimp only at e4 e5 e6
      subst e4 e5 e6
      dsimp only [PV.cell] at *
      rw [Nat.add_zero] at c0
      clear hcells hx hxm
      generalize hle : es.length = le at *
      generalize hli : is.length = li at *
      generalize hlp : ps.length = lp at *
      have hkl : (k : Int) < (l.length : Int) := by omega
      have ba : Below wr.heap.size wr (wr.alloc (.cells #[.string N, .int .i64 xa, .int .i64 xi, .string T, .slice pe le ke, .slice pi li ki, .slice pp lp kp, .int .i64 fi] 54)) := (Below.refl _ _).alloc (Nat.le_refl _) _
      have HB2 : Hid (Below w.heap.size w (wr.alloc (.cells #[.string N, .int .i64 xa, .int .i64 xi, .string T, .slice pe le ke, .slice pi li ki, .slice pp lp kp, .int .i64 fi] 54))) := HB.out.trans (ba.mono HB.out.size)
      have HC2 : Hid (CellsAt (wr.alloc (.cells #[.string N, .int .i64 xa, .int .i64 xi, .string T, .slice pe le ke, .slice pi li ki, .slice pp lp kp, .int .i64 fi] 54)) w.heap.size 27 #[.int .i64 K.major, .int .i64 K.minor, .slice qe lk je, .slice (some ⟨b, off, none⟩) l.length cap]) := HC.out.below ba HC.out.lt
      have HD2 : Hid (CellsAt (wr.alloc (.cells #[.string N, .int .i64 xa, .int .i64 xi, .string T, .slice pe le ke, .slice pi li ki, .slice pp lp kp, .int .i64 fi] 54)) (w.heap.size + 1) 27 #[.int .i64 K'.major, .int .i64 K'.minor, .slice qe' lk' je', .slice a' l'.length cap']) := HD.out.below ba HD.out.lt
      have HP2 : Hid (CellsAt (wr.alloc (.cells #[.string N, .int .i64 xa, .int .i64 xi, .string T, .slice pe le ke, .slice pi li ki, .slice pp lp kp, .int .i64 fi] 54)) wr.heap.size 54 #[.string N, .int .i64 xa, .int .i64 xi, .string T, .slice pe le ke, .slice pi li ki, .slice pp lp kp, .int .i64 fi]) := CellsAt.new _ _ _
      have HX2 : Hid (PlcAt (wr.alloc (.cells #[.string N, .int .i64 xa, .int .i64 xi, .string T, .slice pe le ke, .slice pi li ki, .slice pp lp kp, .int .i64 fi] 54)).heap.size (wr.alloc (.cells #[.string N, .int .i64 xa, .int .i64 xi, .string T, .slice pe le ke, .slice pi li ki, .slice pp lp kp, .int .i64 fi] 54)) ⟨⟨N, xa, xi, T, es, is, ps⟩, .slice pe le ke, .slice pi li ki, .slice pp lp kp, fi⟩) := (HPX.out.below ba).more ba.size
      have hpr : w.heap.size + 1 < wr.heap.size := HD.out.lt
      clear ba
      go_upto_region 5 with fail
      clear HPX HB HC HD c0 c1 c2 c3 c4 c5 c6 c7 p3 pl
      generalize (wr.alloc (.cells #[.string N, .int .i64 xa, .int .i64 xi, .string T, .slice pe le ke, .slice pi li ki, .slice pp lp kp, .int .i64 fi] 54)) = w2 at *
      generalize wr.heap.size = gx at *
      have d3 := CellsAt.cell HD2.out 3
      have dl := CellsAt.lt HD2.out
      have e0 := CellsAt.cell HP2.out 0
      have el := CellsAt.lt HP2.out
      simp at d3 e0
      go_wp2_with fail
      refine (HPO.out N _ HB2.out).mono ?_
      clear d3 dl e0 el
      rintro e w3 ⟨rfl, b3⟩
      have HB3 : Hid (Below w.heap.size w w3) := HB2.out.trans (b3.mono HB2.out.size)
      have HC3 : Hid (CellsAt w3 w.heap.size 27 #[.int .i64 K.major, .int .i64 K.minor, .slice qe lk je, .slice (some ⟨b, off, none⟩) l.length cap]) := HC2.out.below b3 HC2.out.lt
      have HD3 : Hid (CellsAt w3 (w.heap.size + 1) 27 #[.int .i64 K'.major, .int .i64 K'.minor, .slice qe' lk' je', .slice a' l'.length cap']) := HD2.out.below b3 HD2.out.lt
      have HP3 : Hid (CellsAt w3 gx 54 #[.string N, .int .i64 xa, .int .i64 xi, .string T, .slice pe le ke, .slice pi li ki, .slice pp lp kp, .int .i64 fi]) := HP2.out.below b3 HP2.out.lt
      have HX3 : Hid (PlcAt w3.heap.size w3 ⟨⟨N, xa, xi, T, es, is, ps⟩, .slice pe le ke, .slice pi li ki, .slice pp lp kp, fi⟩) := (HX2.out.below b3).more b3.size
      clear b3 HB2 HC2 HD2 HP2 HX2
      generalize ixFrom (fun z : PV => z.mod.name == N) 0 l' = ix at *
      have d3 := CellsAt.cell HD3.out 3
      have dl := CellsAt.lt HD3.out
      have e0 := CellsAt.cell HP3.out 0
      have e1 := CellsAt.cell HP3.out 1
      have e2 := CellsAt.cell HP3.out 2
      have e3 := CellsAt.cell HP3.out 3
      have e4 := CellsAt.cell HP3.out 4
      have e5 := CellsAt.cell HP3.out 5
      have e6 := CellsAt.cell HP3.out 6
      have e7 := CellsAt.cell HP3.out 7
      have el := CellsAt.lt HP3.out
      simp at d3 e0 e1 e2 e3 e4 e5 e6 e7
      have td := cell_regrown d3
      have t0 := cell_regrown e0
      have t1 := cell_regrown e1
      have t2 := cell_regrown e2
      have t3 := cell_regrown e3
      have t4 := cell_regrown e4
      have t5 := cell_regrown e5
      have t6 := cell_regrown e6
      have t7 := cell_regrown e7
      clear d3 e0 e1 e2 e3 e4 e5 e6 e7
      by_cases hnm : N = name
      · subst hnm
        clear HAX HJX
        have hnq : (N.data.toList != N.data.toList) = false := by simp
        go_wp2_with fail
        refine wp_region_quiet_below (by kernel_rfl) (by kernel_rfl) ?_
        repeat (go_big_quiet_step ((go_at_call 28; fail)))
        refine wpQuiet_nil ?_
        intro wz hw'
        obtain ⟨⟨dq, osq⟩, hw''⟩ := hw'
        have B5 := below_regrown w3 dq osq
        rw [← hw''] at B5
        clear hw'' td t0 t1 t2 t3 t4 t5 t6 t7
        have HB5 : Hid (Below w.heap.size w wz) := HB3.out.trans (B5.mono HB3.out.size)
        have HC5 : Hid (CellsAt wz w.heap.size 27 #[.int .i64 K.major, .int .i64 K.minor, .slice qe lk je, .slice (some ⟨b, off, none⟩) l.length cap]) := HC3.out.below B5 HC3.out.lt
        have HD5 : Hid (CellsAt wz (w.heap.size + 1) 27 #[.int .i64 K'.major, .int .i64 K'.minor, .slice qe' lk' je', .slice a' l'.length cap']) := HD3.out.below B5 HD3.out.lt
        clear B5 HB3 HC3 HD3
        go_wp2_with fail
        go_roundg (l.length - (k + 1))
        case measure =>
          have := HGK.out
          omega
        case rel => exact ⟨k + 1, (rfl : l.length - (k + 1) = l.length - (k + 1)), by omega, by go_num, HB5, HC5, HD5⟩
      · obtain ⟨j, y, hy, rfl, hyx⟩ := HAX.out hnm
        have hnq2 : (N.toList == name.toList) = false := by
          rw [toList_beq2]
          exact Bool.eq_false_iff.2 (fun e => hnm ((Go.MapKept.bytes_beq _ _).1 e))
        have hym := List.mem_of_getElem? hy
        have hyl : j < l'.length := (List.getElem?_eq_some_iff.1 hy).1
        rcases HRW'.out with h | ⟨b', off', rfl, hbn', hcells'⟩
        · subst h; simp at hyl
        have py := ((HAT'.out y hym).below HB3.out).more HB3.out.size
        have HS : Hid (∀ d os, Calls Tryz.prog 28 #[y.modV, .agg #[.string N, .int .i64 xa, .int .i64 xi, .string T, .slice pe le ke, .slice pi li ki, .slice pp lp kp]] (grow (redrawn w3 d) os) fun e w' => e = .returned (.bool true) ∧ Below (grow (redrawn w3 d) os).heap.size (grow (redrawn w3 d) os) w') := fun d os => by
          have hb := below_regrown w3 d os
          have q1 := ((py.below hb).more hb.size).isMod
          have q2 := ((HX3.out.below hb).more hb.size).isMod
          rw [show y.mod = ⟨N, xa, xi, T, es, is, ps⟩ from congrArg Plc.mod hyx] at q1
          exact sameModule_yes _ _ _ _ q1 q2
        have hfy : y.first = fi := congrArg Plc.first hyx
        have u0 := (HB3.out.cell (p := ⟨b', off' + j * 8 + 0, none⟩) hbn').trans (hcells' j y hy 0 (by omega))
        have u1 := (HB3.out.cell (p := ⟨b', off' + j * 8 + 1, none⟩) hbn').trans (hcells' j y hy 1 (by omega))
        have u2 := (HB3.out.cell (p := ⟨b', off' + j * 8 + 2, none⟩) hbn').trans (hcells' j y hy 2 (by omega))
        have u3 := (HB3.out.cell (p := ⟨b', off' + j * 8 + 3, none⟩) hbn').trans (hcells' j y hy 3 (by omega))
        have u4 := (HB3.out.cell (p := ⟨b', off' + j * 8 + 4, none⟩) hbn').trans (hcells' j y hy 4 (by omega))
        have u5 := (HB3.out.cell (p := ⟨b', off' + j * 8 + 5, none⟩) hbn').trans (hcells' j y hy 5 (by omega))
        have u6 := (HB3.out.cell (p := ⟨b', off' + j * 8 + 6, none⟩) hbn').trans (hcells' j y hy 6 (by omega))
        have u7 := (HB3.out.cell (p := ⟨b', off' + j * 8 + 7, none⟩) hbn').trans (hcells' j y hy 7 (by omega))
        obtain ⟨⟨pe', ke', e4', -⟩, ⟨pi', ki', e5', -⟩, ⟨pp', kp', e6', -⟩⟩ := py
        obtain ⟨⟨N', xa', xi', T', es', is', ps'⟩, vxe', vxi', vxp', fi'⟩ := y
        dsimp only at e4' e5' e6' hfy
        subst e4' e5' e6' hfy
        dsimp only [PV.cell] at u0 u1 u2 u3 u4 u5 u6 u7
        dsimp only [PV.modV] at HS
        rw [Nat.add_zero] at u0
        clear hcells' hy hyx hym HAX HJX HX3
        generalize es'.length = le' at *
        generalize is'.length = li' at *
        generalize ps'.length = lp' at *
        have v0 := cell_regrown u0
        have v1 := cell_regrown u1
        have v2 := cell_regrown u2
        have v3 := cell_regrown u3
        have v4 := cell_regrown u4
        have v5 := cell_regrown u5
        have v6 := cell_regrown u6
        have v7 := cell_regrown u7
        clear u0 u1 u2 u3 u4 u5 u6 u7
        have hbd : l'.length ≤ 9223372036854775807 := hmax'
        have hjl : (j : Int) < (l'.length : Int) := by omega
        have hj0 : decide ((j : Int) < 0) = false := decide_eq_false (by omega)
        have hff : (fi' != fi') = false := by simp
        go_wp2_with fail
        refine wp_region_quiet_below (by kernel_rfl) (by kernel_rfl) ?_
        repeat (go_big_quiet_step ((go_at_call 28; go_must (exact Calls.regrown_of (HS.out _ _)))))
        refine wpQuiet_nil ?_
        intro wz hw'
        obtain ⟨⟨dq, osq⟩, hw''⟩ := hw'
        have B5 := below_regrown w3 dq osq
        rw [← hw''] at B5
        clear hw'' td t0 t1 t2 t3 t4 t5 t6 t7 v0 v1 v2 v3 v4 v5 v6 v7 HS
        have HB5 : Hid (Below w.heap.size w wz) := HB3.out.trans (B5.mono HB3.out.size)
        have HC5 : Hid (CellsAt wz w.heap.size 27 #[.int .i64 K.major, .int .i64 K.minor, .slice qe lk je, .slice (some ⟨b, off, none⟩) l.length cap]) := HC3.out.below B5 HC3.out.lt
        have HD5 : Hid (CellsAt wz (w.heap.size + 1) 27 #[.int .i64 K'.major, .int .i64 K'.minor, .slice qe' lk' je', .slice (some ⟨b', off', none⟩) l'.length cap']) := HD3.out.below B5 HD3.out.lt
        clear B5 HB3 HC3 HD3
        go_wp2_with fail
        go_roundg (l.length - (k + 1))
        case measure =>
          have := HGK.out
          omega
        case rel => exact ⟨k + 1, (rfl : l.length - (k + 1) = l.length - (k + 1)), by omega, by go_num, HB5, HC5, HD5⟩
    · go_wp2
      go_ret
      exact ⟨rfl, HB.out⟩

end Go.Proofs.YthmohjgdcjafkaeGreat

/- What is come to, both ways. -/
namespace Go.Proofs.YthmohjgdcjafkaeGreat
open Go.RowKit Go.PlainAid

theorem comeErr_zero {L : List Plc} {name : ByteArray} (h : comeErr L name = 0) : chkGraph L = 0 := by
  unfold comeErr at h
  split at h
  · exact absurd h ‹_›
  · omega
theorem chk_nodup {L : List Plc} (h : chkGraph L = 0) : ((L.map (·.mod)).map (·.name)).Nodup := by
  have := (chkGraph_zero.1 h).2.2
  rw [List.map_map]
  exact this
theorem ComeRes.err {nx : Mod → Mod → Bool} {L : List Plc} {name : ByteArray} {ss : List ByteArray} (h : ComeRes nx L name ss) (he : comeErr L name ≠ 0) : ss = [] := by
  rcases h with ⟨_, h⟩ | ⟨h, _⟩
  · exact h
  · exact absurd h he
theorem ComeRes.ok {nx : Mod → Mod → Bool} {L : List Plc} {name : ByteArray} {ss : List ByteArray} (h : ComeRes nx L name ss) (he : comeErr L name = 0) : ∃ f, f < L.length ∧ nameAt (L.map (·.mod)) f = name ∧ Comes nx (L.map (·.mod)) f ss := by
  rcases h with ⟨h, _⟩ | ⟨_, h⟩
  · exact absurd he h
  · exact h
theorem Comes.has {nx : Mod → Mod → Bool} {Ms : List Mod} (hd : (Ms.map (·.name)).Nodup) {f k : Nat} {ss : List ByteArray} (h : Comes nx Ms f ss) (hk : k < Ms.length) : nameAt Ms k ∈ ss ↔ Via (Next nx Ms) f k := by
  rw [h.2]
  constructor
  · rintro ⟨j, hj, he⟩
    rw [← nameAt_inj hd hj.lt_of.2 hk he]
    exact hj
  · exact fun hv => ⟨k, hv, rfl⟩
theorem turned_has {L : List Plc} {a b : ByteArray} {xs ys : List ByteArray} (ha : comeErr L a = 0) (hb : comeErr L b = 0) (hx : ComeRes nxNeed L a xs) (hy : ComeRes nxUse L b ys) : (xs.any fun y => y == b) = (ys.any fun y => y == a) := by
  have hd := chk_nodup (comeErr_zero ha)
  obtain ⟨fa, la, na, ca⟩ := hx.ok ha
  obtain ⟨fb, lb, nb, cb⟩ := hy.ok hb
  have la' : fa < (L.map (·.mod)).length := by simpa using la
  have lb' : fb < (L.map (·.mod)).length := by simpa using lb
  rw [Bool.eq_iff_iff, any_mem, any_mem, ← na, ← nb, ca.has hd lb', cb.has hd la', via_turn]
theorem turned_more {L : List Plc} {a b : ByteArray} {xs zs : List ByteArray} (ha : comeErr L a = 0) (hb : comeErr L b = 0) (hx : ComeRes nxNeed L a xs) (hz : ComeRes nxNeed L b zs) (h : (xs.any fun y => y == b) = true) : ∀ z ∈ zs, (xs.any fun y => y == z) = true := by
  have hd := chk_nodup (comeErr_zero ha)
  obtain ⟨fa, la, na, ca⟩ := hx.ok ha
  obtain ⟨fb, lb, nb, cb⟩ := hz.ok hb
  have lb' : fb < (L.map (·.mod)).length := by simpa using lb
  rw [any_mem, ← nb, ca.has hd lb'] at h
  intro z hz2
  rw [any_mem]
  obtain ⟨k, hk, rfl⟩ := (cb.2 z).1 hz2
  exact (ca.has hd hk.lt_of.2).2 (h.trans hk)

end Go.Proofs.YthmohjgdcjafkaeGreat
