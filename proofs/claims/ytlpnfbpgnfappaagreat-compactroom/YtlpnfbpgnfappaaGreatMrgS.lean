/- Texts that are laid together. -/
import Derived.Test.YtlpnfbpgnfappaaGreatMrgR
import Derived.Test.YtlpnfbpgnfappaaGreatMrgL
import Derived.Test.YtlpnfbpgnfappaaGreatMrgD
import Derived.Test.YtlpnfbpgnfappaaGreatMrgN
import Derived.Test.YtlpnfbpgnfappaaGreatMrgQ
import Derived.Test.YtlpnfbpgnfappaaGreatMrgM
import Derived.Test.YtlpnfbpgnfappaaGreatMrgK

/- What must be in any case, of compact. -/
namespace Go.Proofs.YtlpnfbpgnfappaaGreat
open Go.RowKit Go.PlainAid Go.Lib

set_option maxRecDepth 100000

theorem cpB_s1 : (stepRes pairL).1.map (·.first) = [0, 4] := by kernel_rfl
theorem cpB_s2 : (stepRes pairL).2 = true := by kernel_rfl
theorem cpB_p1 : (packFrom 0 pairL).map (·.first) = [0, 1] := by kernel_rfl
theorem cpB_p2 : offFrom 0 pairL = 2 := by kernel_rfl
theorem firsts_plc {l : List PV} {L : List Plc} {f : List Int} (h : l.map PV.plc = L) (hf : L.map (·.first) = f) : l.map (·.first) = f := by
  rw [← hf, ← h, List.map_map]
  rfl

set_option maxHeartbeats 8000000 in
theorem compactBegun_any (w : World) : Calls Tryz.prog 15 #[] w fun e w' => e = .returned (.bool true) ∧ Below w.heap.size w w' := by
  have HST : Hid (∀ l v W, l.map PV.plc = pairL → IsReg W.heap.size W v kernK l → Calls Tryz.prog 28 #[v] W fun e w' => (∃ ma mi q lk j b off c, e = .returned (.tuple #[.agg #[.int .i64 ma, .int .i64 mi, .slice q lk j, .slice (some ⟨b, off, none⟩) 2 c], .bool true, .int .i64 0]) ∧ b < w'.heap.size ∧ w'.cell? ⟨b, off + 7, none⟩ = some (.int .i64 0) ∧ w'.cell? ⟨b, off + 15, none⟩ = some (.int .i64 4)) ∧ Below W.heap.size W w') := fun l v W hl hR => by
    refine (compStep_any kernK l v W hR kern_fits (pair_fits hl)).mono ?_
    rintro e w' ⟨⟨v', l', rfl, hp, _, ho⟩, hb⟩
    have hi := stepAns_reg hp ho
    have ha : stepAns kernK (l.map PV.plc) = ((kernK, (stepRes pairL).1), (stepRes pairL).2, 0) := by
      unfold stepAns
      rw [hl, if_pos rgB_c]
    rw [ha] at hp hi ⊢
    obtain ⟨ma, mi, q, lk, j, b, off, c, rfl, h1, h2, h3⟩ := row2_form hi (firsts_plc hp cpB_s1)
    dsimp only
    rw [cpB_s2]
    exact ⟨⟨ma, mi, q, lk, j, b, off, c, rfl, h1, h2, h3⟩, hb⟩
  have HPK : Hid (∀ l v W, l.map PV.plc = pairL → IsReg W.heap.size W v kernK l → Calls Tryz.prog 17 #[v] W fun e w' => (∃ ma mi q lk j b off c, e = .returned (.tuple #[.agg #[.int .i64 ma, .int .i64 mi, .slice q lk j, .slice (some ⟨b, off, none⟩) 2 c], .int .i64 2, .int .i64 0]) ∧ b < w'.heap.size ∧ w'.cell? ⟨b, off + 7, none⟩ = some (.int .i64 0) ∧ w'.cell? ⟨b, off + 15, none⟩ = some (.int .i64 1)) ∧ Below W.heap.size W w') := fun l v W hl hR => by
    refine (compPack_any kernK l v W hR kern_fits (pair_fits hl)).mono ?_
    rintro e w' ⟨⟨v', l', rfl, hp, _, ho⟩, hb⟩
    have hi := packAns_reg hp ho
    have ha : packAns kernK (l.map PV.plc) = ((kernK, packFrom 0 pairL), offFrom 0 pairL, 0) := by
      unfold packAns
      rw [hl, if_pos rgB_c]
    rw [ha] at hp hi ⊢
    obtain ⟨ma, mi, q, lk, j, b, off, c, rfl, h1, h2, h3⟩ := row2_form hi (firsts_plc hp cpB_p1)
    dsimp only
    rw [cpB_p2]
    exact ⟨⟨ma, mi, q, lk, j, b, off, c, rfl, h1, h2, h3⟩, hb⟩
  go_enter Tryz.func15, Tryz.ntmps15
  go_wp2_with fail
  refine (reg_any _).mono ?_
  rintro e w1 ⟨v, l, rfl, hl, hR, B⟩
  have HB1 : Hid (Below w.heap.size w w1) := B
  clear B
  go_wp2_with fail
  refine (HST.out l v _ hl hR).mono ?_
  rintro e w2 ⟨⟨ma, mi, q, lk, j, b, off, c, rfl, hb, h7, h15⟩, b2⟩
  have HB2 : Hid (Below w.heap.size w w2) := HB1.out.trans (b2.mono HB1.out.size)
  clear b2 HB1 hl hR HST
  have HB3 : Hid (Below w.heap.size w (w2.alloc (.cells #[.int .i64 ma, .int .i64 mi, .slice q lk j, .slice (some ⟨b, off, none⟩) 2 c] 27))) := HB2.out.alloc HB2.out.size _
  have HC3 : Hid (CellsAt (w2.alloc (.cells #[.int .i64 ma, .int .i64 mi, .slice q lk j, .slice (some ⟨b, off, none⟩) 2 c] 27)) w2.heap.size 27 #[.int .i64 ma, .int .i64 mi, .slice q lk j, .slice (some ⟨b, off, none⟩) 2 c]) := CellsAt.new _ _ _
  have ba : Below w2.heap.size w2 (w2.alloc (.cells #[.int .i64 ma, .int .i64 mi, .slice q lk j, .slice (some ⟨b, off, none⟩) 2 c] 27)) := (Below.refl _ _).alloc (Nat.le_refl _) _
  have H7 : Hid ((w2.alloc (.cells #[.int .i64 ma, .int .i64 mi, .slice q lk j, .slice (some ⟨b, off, none⟩) 2 c] 27)).cell? ⟨b, off + 7, none⟩ = some (.int .i64 0)) := (ba.cell (p := ⟨b, off + 7, none⟩) hb).trans h7
  have H15 : Hid ((w2.alloc (.cells #[.int .i64 ma, .int .i64 mi, .slice q lk j, .slice (some ⟨b, off, none⟩) 2 c] 27)).cell? ⟨b, off + 15, none⟩ = some (.int .i64 4)) := (ba.cell (p := ⟨b, off + 15, none⟩) hb).trans h15
  have HBL : Hid (b < w2.heap.size) := hb
  clear hb h7 h15 ba HB2
  go_wp2_with fail
  refine (reg_any _).mono ?_
  have hsz : w2.heap.size < (w2.alloc (.cells #[.int .i64 ma, .int .i64 mi, .slice q lk j, .slice (some ⟨b, off, none⟩) 2 c] 27)).heap.size := HC3.out.lt
  generalize (w2.alloc (.cells #[.int .i64 ma, .int .i64 mi, .slice q lk j, .slice (some ⟨b, off, none⟩) 2 c] 27)) = w3 at *
  generalize w2.heap.size = g2 at *
  rintro e w4 ⟨v, l, rfl, hl, hR, b4⟩
  have hbl := HBL.out
  have HB4 : Hid (Below w.heap.size w w4) := HB3.out.trans (b4.mono HB3.out.size)
  have HC4 : Hid (CellsAt w4 g2 27 #[.int .i64 ma, .int .i64 mi, .slice q lk j, .slice (some ⟨b, off, none⟩) 2 c]) := HC3.out.below b4 HC3.out.lt
  have I7 : Hid (w4.cell? ⟨b, off + 7, none⟩ = some (.int .i64 0)) := (b4.cell (p := ⟨b, off + 7, none⟩) (show b < _ by omega)).trans H7.out
  have I15 : Hid (w4.cell? ⟨b, off + 15, none⟩ = some (.int .i64 4)) := (b4.cell (p := ⟨b, off + 15, none⟩) (show b < _ by omega)).trans H15.out
  clear b4 H7 H15 HC3 HB3 hsz
  go_wp2_with fail
  refine (HPK.out l v _ hl hR).mono ?_
  rintro e w5 ⟨⟨ma', mi', q', lk', j', b', off', c', rfl, hb', h7', h15'⟩, b5⟩
  have hl4 := HC4.out.lt
  have HB5 : Hid (Below w.heap.size w w5) := HB4.out.trans (b5.mono HB4.out.size)
  have HC5 : Hid (CellsAt w5 g2 27 #[.int .i64 ma, .int .i64 mi, .slice q lk j, .slice (some ⟨b, off, none⟩) 2 c]) := HC4.out.below b5 HC4.out.lt
  have J7 : Hid (w5.cell? ⟨b, off + 7, none⟩ = some (.int .i64 0)) := (b5.cell (p := ⟨b, off + 7, none⟩) (show b < _ by omega)).trans I7.out
  have J15 : Hid (w5.cell? ⟨b, off + 15, none⟩ = some (.int .i64 4)) := (b5.cell (p := ⟨b, off + 15, none⟩) (show b < _ by omega)).trans I15.out
  clear b5 I7 I15 HC4 HB4 hl hR HPK
  have hl5 := HC5.out.lt
  have HB6 : Hid (Below w.heap.size w (w5.alloc (.cells #[.int .i64 ma', .int .i64 mi', .slice q' lk' j', .slice (some ⟨b', off', none⟩) 2 c'] 27))) := HB5.out.alloc HB5.out.size _
  have HD6 : Hid (CellsAt (w5.alloc (.cells #[.int .i64 ma', .int .i64 mi', .slice q' lk' j', .slice (some ⟨b', off', none⟩) 2 c'] 27)) w5.heap.size 27 #[.int .i64 ma', .int .i64 mi', .slice q' lk' j', .slice (some ⟨b', off', none⟩) 2 c']) := CellsAt.new _ _ _
  have ba : Below w5.heap.size w5 (w5.alloc (.cells #[.int .i64 ma', .int .i64 mi', .slice q' lk' j', .slice (some ⟨b', off', none⟩) 2 c'] 27)) := (Below.refl _ _).alloc (Nat.le_refl _) _
  have HC6 : Hid (CellsAt (w5.alloc (.cells #[.int .i64 ma', .int .i64 mi', .slice q' lk' j', .slice (some ⟨b', off', none⟩) 2 c'] 27)) g2 27 #[.int .i64 ma, .int .i64 mi, .slice q lk j, .slice (some ⟨b, off, none⟩) 2 c]) := HC5.out.below ba HC5.out.lt
  have K7 := (ba.cell (p := ⟨b, off + 7, none⟩) (show b < _ by omega)).trans J7.out
  have K15 := (ba.cell (p := ⟨b, off + 15, none⟩) (show b < _ by omega)).trans J15.out
  have L15 := (ba.cell (p := ⟨b', off' + 15, none⟩) hb').trans h15'
  clear hb' h7' h15' J7 J15 HC5 HB5 ba hl4 hl5 hbl HBL
  go_upto_region 3 with fail
  generalize (w5.alloc (.cells #[.int .i64 ma', .int .i64 mi', .slice q' lk' j', .slice (some ⟨b', off', none⟩) 2 c'] 27)) = w6 at *
  generalize w5.heap.size = g5 at *
  have c1 := CellsAt.cell HC6.out 3
  have cl := CellsAt.lt HC6.out
  have d1 := CellsAt.cell HD6.out 3
  have dl := CellsAt.lt HD6.out
  simp at c1 d1
  go_wp2
  go_ret
  exact ⟨rfl, HB6.out⟩

end Go.Proofs.YtlpnfbpgnfappaaGreat

/- What must be in any case, of plans. Printed by genplo.py. -/
namespace Go.Proofs.YtlpnfbpgnfappaaGreat
open Go.RowKit Go.PlainAid Go.Lib

set_option maxRecDepth 100000

theorem row1_form {n : Nat} {W : World} {v : Value} {K : Ker} {l : List PV} {k : Nat} (h : IsReg n W v K l) (hl : l.length = k) : ∃ ma mi q lk j a c, v = .agg #[.int .i64 ma, .int .i64 mi, .slice q lk j, .slice a k c] := by
  obtain ⟨q, j, a, c, e⟩ := h.shape0
  exact ⟨_, _, q, _, j, a, c, by rw [e, hl]⟩
theorem rowN_form {n : Nat} {W : World} {v : Value} {K : Ker} {l : List PV} {p : Plc} {r : List Plc} (h : IsReg n W v K l) (hf : l.map PV.plc = p :: r) : ∃ ma mi q lk j b off c, v = .agg #[.int .i64 ma, .int .i64 mi, .slice q lk j, .slice (some ⟨b, off, none⟩) (r.length + 1) c] ∧ b < n ∧ W.cell? ⟨b, off, none⟩ = some (.string p.mod.name) := by
  obtain ⟨ve, vl, rfl, ⟨q, j, rfl, _, _⟩, ⟨⟨a, c, rfl, _, hc⟩, _⟩⟩ := h
  cases l with
  | nil => cases hf
  | cons x l =>
    injection hf with h1 h2
    have hl : (x :: l).length = r.length + 1 := by rw [← h2, List.length_map, List.length_cons]
    rcases hc with h | ⟨b, off, rfl, hb, hc⟩
    · cases h
    · have h0 := hc 0 x rfl 0 (by omega)
      refine ⟨_, _, _, _, _, b, off, c, by rw [hl], hb, ?_⟩
      rw [← h1]
      exact h0
theorem row2_minor {n : Nat} {W : World} {v : Value} {K : Ker} {l : List PV} {p p' : Plc} (h : IsReg n W v K l) (hf : l.map PV.plc = [p, p']) : ∃ ma mi q lk j b off c, v = .agg #[.int .i64 ma, .int .i64 mi, .slice q lk j, .slice (some ⟨b, off, none⟩) 2 c] ∧ b < n ∧ W.cell? ⟨b, off + 15, none⟩ = some (.int .i64 p'.first) ∧ W.cell? ⟨b, off + 10, none⟩ = some (.int .i64 p'.mod.minor) := by
  obtain ⟨ve, vl, rfl, ⟨q, j, rfl, _, _⟩, ⟨⟨a, c, rfl, _, hc⟩, _⟩⟩ := h
  match l, hf, hc with
  | [x, y], hf, hc =>
    injection hf with h1 h2
    injection h2 with h2 _
    rcases hc with h | ⟨b, off, rfl, hb, hc⟩
    · cases h
    · have h0 := hc 1 y rfl 7 (by omega)
      have h3 := hc 1 y rfl 2 (by omega)
      refine ⟨_, _, _, _, _, b, off, c, rfl, hb, ?_, ?_⟩
      · rw [← h2]
        have e : off + 1 * 8 + 7 = off + 15 := by omega
        rw [e] at h0
        exact h0
      · rw [← h2]
        have e : off + 1 * 8 + 2 = off + 10 := by omega
        rw [e] at h3
        exact h3

theorem zreg_no {W : World} {B k : Nat} {t : TypeId} (h : CellsAt W B t #[.int .i64 0, .int .i64 0, .slice none 0 0, .slice none 0 0]) (hk : 4 ≤ k) : W.cell? ⟨B, k, none⟩ = none := by
  rw [h.cell k]
  exact Array.getElem?_eq_none (by simpa using hk)

set_option maxHeartbeats 16000000 in
theorem planBegun_any (w : World) : Calls Tryz.prog 13 #[] w fun e w' => e = .returned (.bool true) ∧ Below w.heap.size w w' := by
  have HIN : Hid (∀ l v vm W, l.map PV.plc = pairL → IsReg W.heap.size W v kernK l → IsMod W.heap.size W vm extraM → Calls Tryz.prog 6 #[v, vm] W fun e w' => (∃ ma mi q lk j b off c, e = .returned (.tuple #[.agg #[.int .i64 ma, .int .i64 mi, .slice q lk j, .slice (some ⟨b, off, none⟩) 3 c], .int .i64 0]) ∧ b < w'.heap.size ∧ w'.cell? ⟨b, off, none⟩ = some (.string ⟨#[101, 120, 116, 114, 97]⟩)) ∧ Below W.heap.size W w') := fun l v vm W hl hR hM => by
    refine (plInstall_any kernK l v extraM vm W hR kern_fits (pair_fits hl) hM extra_fits).mono ?_
    rintro e w' ⟨⟨v', l', rfl, hp, _, ho⟩, hb⟩
    have hi := planRes_reg hp ho
    rw [hl, plB_i] at hp hi ⊢
    obtain ⟨ma, mi, q, lk, j, b, off, c, rfl, h1, h2⟩ := rowN_form hi hp
    exact ⟨⟨ma, mi, q, lk, j, b, off, c, rfl, h1, h2⟩, hb⟩
  have HRA : Hid (∀ l v W, l.map PV.plc = pairL → IsReg W.heap.size W v kernK l → Calls Tryz.prog 7 #[v, .string ⟨#[97, 112, 112]⟩] W fun e w' => (∃ ma mi q lk j a c, e = .returned (.tuple #[.agg #[.int .i64 ma, .int .i64 mi, .slice q lk j, .slice a 1 c], .int .i64 0])) ∧ Below W.heap.size W w') := fun l v W hl hR => by
    refine (plRemove_any kernK l v appN W hR kern_fits (pair_fits hl)).mono ?_
    rintro e w' ⟨⟨v', l', rfl, hp, _, ho⟩, hb⟩
    have hi := planRes_reg hp ho
    rw [hl, plB_r] at hp hi ⊢
    have hln : l'.length = 1 := by have := congrArg List.length hp; rw [List.length_map] at this; exact this
    obtain ⟨ma, mi, q, lk, j, a, c, rfl⟩ := row1_form hi hln
    exact ⟨⟨ma, mi, q, lk, j, a, c, rfl⟩, hb⟩
  have HRL : Hid (∀ l v W, l.map PV.plc = pairL → IsReg W.heap.size W v kernK l → Calls Tryz.prog 7 #[v, .string ⟨#[108, 105, 98]⟩] W fun e w' => (∃ ma mi q lk j a la c, e = .returned (.tuple #[.agg #[.int .i64 ma, .int .i64 mi, .slice q lk j, .slice a la c], .int .i64 4])) ∧ Below W.heap.size W w') := fun l v W hl hR => by
    refine (plRemove_any kernK l v libN W hR kern_fits (pair_fits hl)).mono ?_
    rintro e w' ⟨⟨v', l', rfl, hp, _, ho⟩, hb⟩
    have hi := planRes_reg hp ho
    rw [hl, plB_s] at hp hi ⊢
    obtain ⟨ma, mi, q, lk, j, a, c, rfl⟩ := row1_form hi rfl
    exact ⟨⟨ma, mi, q, lk, j, a, _, c, rfl⟩, hb⟩
  have HUP : Hid (∀ l v vm W, l.map PV.plc = pairL → IsReg W.heap.size W v kernK l → IsMod W.heap.size W vm lib9M → Calls Tryz.prog 8 #[v, vm] W fun e w' => (∃ ma mi q lk j b off c, e = .returned (.tuple #[.agg #[.int .i64 ma, .int .i64 mi, .slice q lk j, .slice (some ⟨b, off, none⟩) 2 c], .int .i64 0]) ∧ b < w'.heap.size ∧ w'.cell? ⟨b, off + 15, none⟩ = some (.int .i64 4) ∧ w'.cell? ⟨b, off + 10, none⟩ = some (.int .i64 9)) ∧ Below W.heap.size W w') := fun l v vm W hl hR hM => by
    refine (plUpgrade_any kernK l v lib9M vm W hR kern_fits (pair_fits hl) hM lib9_fits).mono ?_
    rintro e w' ⟨⟨v', l', rfl, hp, _, ho⟩, hb⟩
    have hi := planRes_reg hp ho
    rw [hl, plB_u] at hp hi ⊢
    obtain ⟨ma, mi, q, lk, j, b, off, c, rfl, h1, h2, h3⟩ := row2_minor hi hp
    exact ⟨⟨ma, mi, q, lk, j, b, off, c, rfl, h1, h2, h3⟩, hb⟩
  have HB0 : Hid (Below w.heap.size w w) := Below.refl _ _
  go_enter Tryz.func13, Tryz.ntmps13
  go_wp2_with fail
  refine (reg_any _).mono ?_
  rintro e w1 ⟨v1, l1, rfl, hl1, hR1, b1⟩
  have HB1 : Hid (Below w.heap.size w w1) := HB0.out.trans (b1.mono HB0.out.size)
  clear HB0
  clear b1
  go_wp2_with fail
  refine (extra_any _).mono ?_
  rintro e w2 ⟨rfl, b2⟩
  replace hR1 := (hR1.below b2).more b2.size
  have HB2 : Hid (Below w.heap.size w w2) := HB1.out.trans (b2.mono HB1.out.size)
  clear HB1
  clear b2
  go_wp2_with fail
  refine (HIN.out l1 v1 _ _ hl1 hR1 (extra_isMod _ _)).mono ?_
  rintro e w3 ⟨⟨ma, mi, q, lk, j, b, off, c, rfl, hb1, h0⟩, b3⟩
  have HB3 : Hid (Below w.heap.size w w3) := HB2.out.trans (b3.mono HB2.out.size)
  clear HB2
  have HF0 : Hid (w3.cell? ⟨b, off, none⟩ = some (.string ⟨#[101, 120, 116, 114, 97]⟩) ∧ (⟨b, off, none⟩ : Addr).block < w3.heap.size) := ⟨h0, hb1⟩
  clear b3 HIN hl1 hR1 h0 hb1
  have ba : Below w3.heap.size w3 (w3.alloc (.cells #[.int .i64 ma, .int .i64 mi, .slice q lk j, .slice (some ⟨b, off, none⟩) 3 c] 27)) := (Below.refl _ _).alloc (Nat.le_refl _) _
  have olw_gA : w.heap.size ≤ w3.heap.size := HB3.out.size
  have HB4 : Hid (Below w.heap.size w (w3.alloc (.cells #[.int .i64 ma, .int .i64 mi, .slice q lk j, .slice (some ⟨b, off, none⟩) 3 c] 27))) := HB3.out.trans (ba.mono HB3.out.size)
  have HF4_0 : Hid ((w3.alloc (.cells #[.int .i64 ma, .int .i64 mi, .slice q lk j, .slice (some ⟨b, off, none⟩) 3 c] 27)).cell? ⟨b, off, none⟩ = some (.string ⟨#[101, 120, 116, 114, 97]⟩) ∧ (⟨b, off, none⟩ : Addr).block < (w3.alloc (.cells #[.int .i64 ma, .int .i64 mi, .slice q lk j, .slice (some ⟨b, off, none⟩) 3 c] 27)).heap.size) := ⟨(ba.cell (p := ⟨b, off, none⟩) HF0.out.2).trans HF0.out.1, Nat.lt_of_lt_of_le HF0.out.2 ba.size⟩
  clear HB3 HF0
  clear ba
  have HC5 : Hid (CellsAt (w3.alloc (.cells #[.int .i64 ma, .int .i64 mi, .slice q lk j, .slice (some ⟨b, off, none⟩) 3 c] 27)) w3.heap.size 27 #[.int .i64 ma, .int .i64 mi, .slice q lk j, .slice (some ⟨b, off, none⟩) 3 c]) := CellsAt.new _ _ _
  go_upto_region 2 with fail
  generalize (w3.alloc (.cells #[.int .i64 ma, .int .i64 mi, .slice q lk j, .slice (some ⟨b, off, none⟩) 3 c] 27)) = w4 at *
  generalize w3.heap.size = gA at *
  go_wp2_with fail
  refine (reg_any _).mono ?_
  rintro e w5 ⟨v2, l2, rfl, hl2, hR2, b2⟩
  have HB6 : Hid (Below w.heap.size w w5) := HB4.out.trans (b2.mono HB4.out.size)
  have HC6_0 : Hid (CellsAt w5 gA 27 #[.int .i64 ma, .int .i64 mi, .slice q lk j, .slice (some ⟨b, off, none⟩) 3 c]) := HC5.out.below b2 HC5.out.lt
  have HF6_0 : Hid (w5.cell? ⟨b, off, none⟩ = some (.string ⟨#[101, 120, 116, 114, 97]⟩) ∧ (⟨b, off, none⟩ : Addr).block < w5.heap.size) := ⟨(b2.cell (p := ⟨b, off, none⟩) HF4_0.out.2).trans HF4_0.out.1, Nat.lt_of_lt_of_le HF4_0.out.2 b2.size⟩
  clear HB4 HC5 HF4_0
  clear b2
  go_wp2_with fail
  refine (HRA.out l2 v2 _ hl2 hR2).mono ?_
  rintro e w6 ⟨⟨mb, nb, qb, kb, jb, xb, cb, rfl⟩, b6⟩
  have HB7 : Hid (Below w.heap.size w w6) := HB6.out.trans (b6.mono HB6.out.size)
  have HC7_0 : Hid (CellsAt w6 gA 27 #[.int .i64 ma, .int .i64 mi, .slice q lk j, .slice (some ⟨b, off, none⟩) 3 c]) := HC6_0.out.below b6 HC6_0.out.lt
  have HF7_0 : Hid (w6.cell? ⟨b, off, none⟩ = some (.string ⟨#[101, 120, 116, 114, 97]⟩) ∧ (⟨b, off, none⟩ : Addr).block < w6.heap.size) := ⟨(b6.cell (p := ⟨b, off, none⟩) HF6_0.out.2).trans HF6_0.out.1, Nat.lt_of_lt_of_le HF6_0.out.2 b6.size⟩
  clear HB6 HC6_0 HF6_0
  clear b6 HRA hl2 hR2
  have ba : Below w6.heap.size w6 (w6.alloc (.cells #[.int .i64 mb, .int .i64 nb, .slice qb kb jb, .slice xb 1 cb] 27)) := (Below.refl _ _).alloc (Nat.le_refl _) _
  have ol_gA_gB : gA < w6.heap.size := CellsAt.lt HC7_0.out
  have olw_gB : w.heap.size ≤ w6.heap.size := HB7.out.size
  have HB8 : Hid (Below w.heap.size w (w6.alloc (.cells #[.int .i64 mb, .int .i64 nb, .slice qb kb jb, .slice xb 1 cb] 27))) := HB7.out.trans (ba.mono HB7.out.size)
  have HC8_0 : Hid (CellsAt (w6.alloc (.cells #[.int .i64 mb, .int .i64 nb, .slice qb kb jb, .slice xb 1 cb] 27)) gA 27 #[.int .i64 ma, .int .i64 mi, .slice q lk j, .slice (some ⟨b, off, none⟩) 3 c]) := HC7_0.out.below ba HC7_0.out.lt
  have HF8_0 : Hid ((w6.alloc (.cells #[.int .i64 mb, .int .i64 nb, .slice qb kb jb, .slice xb 1 cb] 27)).cell? ⟨b, off, none⟩ = some (.string ⟨#[101, 120, 116, 114, 97]⟩) ∧ (⟨b, off, none⟩ : Addr).block < (w6.alloc (.cells #[.int .i64 mb, .int .i64 nb, .slice qb kb jb, .slice xb 1 cb] 27)).heap.size) := ⟨(ba.cell (p := ⟨b, off, none⟩) HF7_0.out.2).trans HF7_0.out.1, Nat.lt_of_lt_of_le HF7_0.out.2 ba.size⟩
  clear HB7 HC7_0 HF7_0
  clear ba
  have HC9 : Hid (CellsAt (w6.alloc (.cells #[.int .i64 mb, .int .i64 nb, .slice qb kb jb, .slice xb 1 cb] 27)) w6.heap.size 27 #[.int .i64 mb, .int .i64 nb, .slice qb kb jb, .slice xb 1 cb]) := CellsAt.new _ _ _
  go_upto_region 3 with fail
  generalize (w6.alloc (.cells #[.int .i64 mb, .int .i64 nb, .slice qb kb jb, .slice xb 1 cb] 27)) = w7 at *
  generalize w6.heap.size = gB at *
  go_wp2_with fail
  refine (reg_any _).mono ?_
  rintro e w8 ⟨v3, l3, rfl, hl3, hR3, b3⟩
  have HB10 : Hid (Below w.heap.size w w8) := HB8.out.trans (b3.mono HB8.out.size)
  have HC10_0 : Hid (CellsAt w8 gA 27 #[.int .i64 ma, .int .i64 mi, .slice q lk j, .slice (some ⟨b, off, none⟩) 3 c]) := HC8_0.out.below b3 HC8_0.out.lt
  have HC10_1 : Hid (CellsAt w8 gB 27 #[.int .i64 mb, .int .i64 nb, .slice qb kb jb, .slice xb 1 cb]) := HC9.out.below b3 HC9.out.lt
  have HF10_0 : Hid (w8.cell? ⟨b, off, none⟩ = some (.string ⟨#[101, 120, 116, 114, 97]⟩) ∧ (⟨b, off, none⟩ : Addr).block < w8.heap.size) := ⟨(b3.cell (p := ⟨b, off, none⟩) HF8_0.out.2).trans HF8_0.out.1, Nat.lt_of_lt_of_le HF8_0.out.2 b3.size⟩
  clear HB8 HC8_0 HC9 HF8_0
  clear b3
  go_wp2_with fail
  refine (HRL.out l3 v3 _ hl3 hR3).mono ?_
  rintro e w9 ⟨⟨ms, ns, qs, ks, js, xs, ls, cs, rfl⟩, b9⟩
  have HB11 : Hid (Below w.heap.size w w9) := HB10.out.trans (b9.mono HB10.out.size)
  have HC11_0 : Hid (CellsAt w9 gA 27 #[.int .i64 ma, .int .i64 mi, .slice q lk j, .slice (some ⟨b, off, none⟩) 3 c]) := HC10_0.out.below b9 HC10_0.out.lt
  have HC11_1 : Hid (CellsAt w9 gB 27 #[.int .i64 mb, .int .i64 nb, .slice qb kb jb, .slice xb 1 cb]) := HC10_1.out.below b9 HC10_1.out.lt
  have HF11_0 : Hid (w9.cell? ⟨b, off, none⟩ = some (.string ⟨#[101, 120, 116, 114, 97]⟩) ∧ (⟨b, off, none⟩ : Addr).block < w9.heap.size) := ⟨(b9.cell (p := ⟨b, off, none⟩) HF10_0.out.2).trans HF10_0.out.1, Nat.lt_of_lt_of_le HF10_0.out.2 b9.size⟩
  clear HB10 HC10_0 HC10_1 HF10_0
  clear b9 HRL hl3 hR3
  have ba : Below w9.heap.size w9 (w9.alloc (.cells #[.int .i64 ms, .int .i64 ns, .slice qs ks js, .slice xs ls cs] 27)) := (Below.refl _ _).alloc (Nat.le_refl _) _
  have ol_gA_gS : gA < w9.heap.size := CellsAt.lt HC11_0.out
  have ol_gB_gS : gB < w9.heap.size := CellsAt.lt HC11_1.out
  have olw_gS : w.heap.size ≤ w9.heap.size := HB11.out.size
  have HB12 : Hid (Below w.heap.size w (w9.alloc (.cells #[.int .i64 ms, .int .i64 ns, .slice qs ks js, .slice xs ls cs] 27))) := HB11.out.trans (ba.mono HB11.out.size)
  have HC12_0 : Hid (CellsAt (w9.alloc (.cells #[.int .i64 ms, .int .i64 ns, .slice qs ks js, .slice xs ls cs] 27)) gA 27 #[.int .i64 ma, .int .i64 mi, .slice q lk j, .slice (some ⟨b, off, none⟩) 3 c]) := HC11_0.out.below ba HC11_0.out.lt
  have HC12_1 : Hid (CellsAt (w9.alloc (.cells #[.int .i64 ms, .int .i64 ns, .slice qs ks js, .slice xs ls cs] 27)) gB 27 #[.int .i64 mb, .int .i64 nb, .slice qb kb jb, .slice xb 1 cb]) := HC11_1.out.below ba HC11_1.out.lt
  have HF12_0 : Hid ((w9.alloc (.cells #[.int .i64 ms, .int .i64 ns, .slice qs ks js, .slice xs ls cs] 27)).cell? ⟨b, off, none⟩ = some (.string ⟨#[101, 120, 116, 114, 97]⟩) ∧ (⟨b, off, none⟩ : Addr).block < (w9.alloc (.cells #[.int .i64 ms, .int .i64 ns, .slice qs ks js, .slice xs ls cs] 27)).heap.size) := ⟨(ba.cell (p := ⟨b, off, none⟩) HF11_0.out.2).trans HF11_0.out.1, Nat.lt_of_lt_of_le HF11_0.out.2 ba.size⟩
  clear HB11 HC11_0 HC11_1 HF11_0
  clear ba
  have HC13 : Hid (CellsAt (w9.alloc (.cells #[.int .i64 ms, .int .i64 ns, .slice qs ks js, .slice xs ls cs] 27)) w9.heap.size 27 #[.int .i64 ms, .int .i64 ns, .slice qs ks js, .slice xs ls cs]) := CellsAt.new _ _ _
  go_upto_region 4 with fail
  generalize (w9.alloc (.cells #[.int .i64 ms, .int .i64 ns, .slice qs ks js, .slice xs ls cs] 27)) = w10 at *
  generalize w9.heap.size = gS at *
  go_wp2_with fail
  refine (lib_any _).mono ?_
  rintro e w11 ⟨le, lke, rfl, hM, b11⟩
  have HB14 : Hid (Below w.heap.size w w11) := HB12.out.trans (b11.mono HB12.out.size)
  have HC14_0 : Hid (CellsAt w11 gA 27 #[.int .i64 ma, .int .i64 mi, .slice q lk j, .slice (some ⟨b, off, none⟩) 3 c]) := HC12_0.out.below b11 HC12_0.out.lt
  have HC14_1 : Hid (CellsAt w11 gB 27 #[.int .i64 mb, .int .i64 nb, .slice qb kb jb, .slice xb 1 cb]) := HC12_1.out.below b11 HC12_1.out.lt
  have HC14_2 : Hid (CellsAt w11 gS 27 #[.int .i64 ms, .int .i64 ns, .slice qs ks js, .slice xs ls cs]) := HC13.out.below b11 HC13.out.lt
  have HF14_0 : Hid (w11.cell? ⟨b, off, none⟩ = some (.string ⟨#[101, 120, 116, 114, 97]⟩) ∧ (⟨b, off, none⟩ : Addr).block < w11.heap.size) := ⟨(b11.cell (p := ⟨b, off, none⟩) HF12_0.out.2).trans HF12_0.out.1, Nat.lt_of_lt_of_le HF12_0.out.2 b11.size⟩
  clear HB12 HC12_0 HC12_1 HC13 HF12_0
  have HM11 : Hid (IsMod w11.heap.size w11 (.agg #[.string ⟨#[108, 105, 98]⟩, .int .i64 1, .int .i64 2, .string ⟨#[97, 98, 99, 100, 101, 102, 103, 104]⟩, .slice le 1 lke, .slice none 0 0, .slice none 0 0]) libM) := hM
  clear b11 hM
  have ba : Below w11.heap.size w11 (w11.alloc (.cells #[.string ⟨#[108, 105, 98]⟩, .int .i64 1, .int .i64 9, .string ⟨#[97, 98, 99, 100, 101, 102, 103, 104]⟩, .slice le 1 lke, .slice none 0 0, .slice none 0 0] 31)) := (Below.refl _ _).alloc (Nat.le_refl _) _
  have ol_gA_gM : gA < w11.heap.size := CellsAt.lt HC14_0.out
  have ol_gB_gM : gB < w11.heap.size := CellsAt.lt HC14_1.out
  have ol_gS_gM : gS < w11.heap.size := CellsAt.lt HC14_2.out
  have olw_gM : w.heap.size ≤ w11.heap.size := HB14.out.size
  have HB15 : Hid (Below w.heap.size w (w11.alloc (.cells #[.string ⟨#[108, 105, 98]⟩, .int .i64 1, .int .i64 9, .string ⟨#[97, 98, 99, 100, 101, 102, 103, 104]⟩, .slice le 1 lke, .slice none 0 0, .slice none 0 0] 31))) := HB14.out.trans (ba.mono HB14.out.size)
  have HC15_0 : Hid (CellsAt (w11.alloc (.cells #[.string ⟨#[108, 105, 98]⟩, .int .i64 1, .int .i64 9, .string ⟨#[97, 98, 99, 100, 101, 102, 103, 104]⟩, .slice le 1 lke, .slice none 0 0, .slice none 0 0] 31)) gA 27 #[.int .i64 ma, .int .i64 mi, .slice q lk j, .slice (some ⟨b, off, none⟩) 3 c]) := HC14_0.out.below ba HC14_0.out.lt
  have HC15_1 : Hid (CellsAt (w11.alloc (.cells #[.string ⟨#[108, 105, 98]⟩, .int .i64 1, .int .i64 9, .string ⟨#[97, 98, 99, 100, 101, 102, 103, 104]⟩, .slice le 1 lke, .slice none 0 0, .slice none 0 0] 31)) gB 27 #[.int .i64 mb, .int .i64 nb, .slice qb kb jb, .slice xb 1 cb]) := HC14_1.out.below ba HC14_1.out.lt
  have HC15_2 : Hid (CellsAt (w11.alloc (.cells #[.string ⟨#[108, 105, 98]⟩, .int .i64 1, .int .i64 9, .string ⟨#[97, 98, 99, 100, 101, 102, 103, 104]⟩, .slice le 1 lke, .slice none 0 0, .slice none 0 0] 31)) gS 27 #[.int .i64 ms, .int .i64 ns, .slice qs ks js, .slice xs ls cs]) := HC14_2.out.below ba HC14_2.out.lt
  have HF15_0 : Hid ((w11.alloc (.cells #[.string ⟨#[108, 105, 98]⟩, .int .i64 1, .int .i64 9, .string ⟨#[97, 98, 99, 100, 101, 102, 103, 104]⟩, .slice le 1 lke, .slice none 0 0, .slice none 0 0] 31)).cell? ⟨b, off, none⟩ = some (.string ⟨#[101, 120, 116, 114, 97]⟩) ∧ (⟨b, off, none⟩ : Addr).block < (w11.alloc (.cells #[.string ⟨#[108, 105, 98]⟩, .int .i64 1, .int .i64 9, .string ⟨#[97, 98, 99, 100, 101, 102, 103, 104]⟩, .slice le 1 lke, .slice none 0 0, .slice none 0 0] 31)).heap.size) := ⟨(ba.cell (p := ⟨b, off, none⟩) HF14_0.out.2).trans HF14_0.out.1, Nat.lt_of_lt_of_le HF14_0.out.2 ba.size⟩
  clear HB14 HC14_0 HC14_1 HC14_2 HF14_0
  clear ba
  have HC16 : Hid (CellsAt (w11.alloc (.cells #[.string ⟨#[108, 105, 98]⟩, .int .i64 1, .int .i64 9, .string ⟨#[97, 98, 99, 100, 101, 102, 103, 104]⟩, .slice le 1 lke, .slice none 0 0, .slice none 0 0] 31)) w11.heap.size 31 #[.string ⟨#[108, 105, 98]⟩, .int .i64 1, .int .i64 9, .string ⟨#[97, 98, 99, 100, 101, 102, 103, 104]⟩, .slice le 1 lke, .slice none 0 0, .slice none 0 0]) := CellsAt.new _ _ _
  have HM12 : Hid (IsMod (w11.alloc (.cells #[.string ⟨#[108, 105, 98]⟩, .int .i64 1, .int .i64 9, .string ⟨#[97, 98, 99, 100, 101, 102, 103, 104]⟩, .slice le 1 lke, .slice none 0 0, .slice none 0 0] 31)).heap.size (w11.alloc (.cells #[.string ⟨#[108, 105, 98]⟩, .int .i64 1, .int .i64 9, .string ⟨#[97, 98, 99, 100, 101, 102, 103, 104]⟩, .slice le 1 lke, .slice none 0 0, .slice none 0 0] 31)) (.agg #[.string ⟨#[108, 105, 98]⟩, .int .i64 1, .int .i64 9, .string ⟨#[97, 98, 99, 100, 101, 102, 103, 104]⟩, .slice le 1 lke, .slice none 0 0, .slice none 0 0]) lib9M) := by
    have hbm : Below w11.heap.size w11 (w11.alloc (.cells #[.string ⟨#[108, 105, 98]⟩, .int .i64 1, .int .i64 9, .string ⟨#[97, 98, 99, 100, 101, 102, 103, 104]⟩, .slice le 1 lke, .slice none 0 0, .slice none 0 0] 31)) := (Below.refl _ _).alloc (Nat.le_refl _) _
    obtain ⟨me, mi9, mp, e, h1, h2, h3⟩ := HM11.out
    injection e with e
    have e := congrArg Array.toList e
    simp at e
    obtain ⟨-, -, -, -, rfl, rfl, rfl⟩ := e
    exact ⟨_, _, _, rfl, (h1.below hbm).more hbm.size, ⟨_, _, rfl, by decide, .inl rfl⟩, ⟨_, _, rfl, by decide, .inl rfl⟩⟩
  clear HM11
  go_upto_region 6 with fail
  refine wp_region_noPanic ?_
  refine wp_region_L (S := fun w' => CellsAt w' w11.heap.size 31 #[.string ⟨#[108, 105, 98]⟩, .int .i64 1, .int .i64 9, .string ⟨#[97, 98, 99, 100, 101, 102, 103, 104]⟩, .slice le 1 lke, .slice none 0 0, .slice none 0 0]) (x := 8) (by kernel_rfl) ?_
  have HBd : Hid (Below w.heap.size w (w11.alloc (.cells #[.string ⟨#[108, 105, 98]⟩, .int .i64 1, .int .i64 9, .string ⟨#[97, 98, 99, 100, 101, 102, 103, 104]⟩, .slice le 1 lke, .slice none 0 0, .slice none 0 0] 31)).drew) := HB15.out.drew
  have HCd_0 : Hid (CellsAt (w11.alloc (.cells #[.string ⟨#[108, 105, 98]⟩, .int .i64 1, .int .i64 9, .string ⟨#[97, 98, 99, 100, 101, 102, 103, 104]⟩, .slice le 1 lke, .slice none 0 0, .slice none 0 0] 31)).drew gA 27 #[.int .i64 ma, .int .i64 mi, .slice q lk j, .slice (some ⟨b, off, none⟩) 3 c]) := (HC15_0.out : CellsAt (w11.alloc (.cells #[.string ⟨#[108, 105, 98]⟩, .int .i64 1, .int .i64 9, .string ⟨#[97, 98, 99, 100, 101, 102, 103, 104]⟩, .slice le 1 lke, .slice none 0 0, .slice none 0 0] 31)) _ _ _)
  have HCd_1 : Hid (CellsAt (w11.alloc (.cells #[.string ⟨#[108, 105, 98]⟩, .int .i64 1, .int .i64 9, .string ⟨#[97, 98, 99, 100, 101, 102, 103, 104]⟩, .slice le 1 lke, .slice none 0 0, .slice none 0 0] 31)).drew gB 27 #[.int .i64 mb, .int .i64 nb, .slice qb kb jb, .slice xb 1 cb]) := (HC15_1.out : CellsAt (w11.alloc (.cells #[.string ⟨#[108, 105, 98]⟩, .int .i64 1, .int .i64 9, .string ⟨#[97, 98, 99, 100, 101, 102, 103, 104]⟩, .slice le 1 lke, .slice none 0 0, .slice none 0 0] 31)) _ _ _)
  have HCd_2 : Hid (CellsAt (w11.alloc (.cells #[.string ⟨#[108, 105, 98]⟩, .int .i64 1, .int .i64 9, .string ⟨#[97, 98, 99, 100, 101, 102, 103, 104]⟩, .slice le 1 lke, .slice none 0 0, .slice none 0 0] 31)).drew gS 27 #[.int .i64 ms, .int .i64 ns, .slice qs ks js, .slice xs ls cs]) := (HC15_2.out : CellsAt (w11.alloc (.cells #[.string ⟨#[108, 105, 98]⟩, .int .i64 1, .int .i64 9, .string ⟨#[97, 98, 99, 100, 101, 102, 103, 104]⟩, .slice le 1 lke, .slice none 0 0, .slice none 0 0] 31)) _ _ _)
  have HCd_3 : Hid (CellsAt (w11.alloc (.cells #[.string ⟨#[108, 105, 98]⟩, .int .i64 1, .int .i64 9, .string ⟨#[97, 98, 99, 100, 101, 102, 103, 104]⟩, .slice le 1 lke, .slice none 0 0, .slice none 0 0] 31)).drew w11.heap.size 31 #[.string ⟨#[108, 105, 98]⟩, .int .i64 1, .int .i64 9, .string ⟨#[97, 98, 99, 100, 101, 102, 103, 104]⟩, .slice le 1 lke, .slice none 0 0, .slice none 0 0]) := (HC16.out : CellsAt (w11.alloc (.cells #[.string ⟨#[108, 105, 98]⟩, .int .i64 1, .int .i64 9, .string ⟨#[97, 98, 99, 100, 101, 102, 103, 104]⟩, .slice le 1 lke, .slice none 0 0, .slice none 0 0] 31)) _ _ _)
  have HFd_0 : Hid ((w11.alloc (.cells #[.string ⟨#[108, 105, 98]⟩, .int .i64 1, .int .i64 9, .string ⟨#[97, 98, 99, 100, 101, 102, 103, 104]⟩, .slice le 1 lke, .slice none 0 0, .slice none 0 0] 31)).drew.cell? ⟨b, off, none⟩ = some (.string ⟨#[101, 120, 116, 114, 97]⟩) ∧ (⟨b, off, none⟩ : Addr).block < (w11.alloc (.cells #[.string ⟨#[108, 105, 98]⟩, .int .i64 1, .int .i64 9, .string ⟨#[97, 98, 99, 100, 101, 102, 103, 104]⟩, .slice le 1 lke, .slice none 0 0, .slice none 0 0] 31)).drew.heap.size) := (HF15_0.out : (w11.alloc (.cells #[.string ⟨#[108, 105, 98]⟩, .int .i64 1, .int .i64 9, .string ⟨#[97, 98, 99, 100, 101, 102, 103, 104]⟩, .slice le 1 lke, .slice none 0 0, .slice none 0 0] 31)).cell? _ = _ ∧ _)
  have HMd : Hid (IsMod (w11.alloc (.cells #[.string ⟨#[108, 105, 98]⟩, .int .i64 1, .int .i64 9, .string ⟨#[97, 98, 99, 100, 101, 102, 103, 104]⟩, .slice le 1 lke, .slice none 0 0, .slice none 0 0] 31)).drew.heap.size (w11.alloc (.cells #[.string ⟨#[108, 105, 98]⟩, .int .i64 1, .int .i64 9, .string ⟨#[97, 98, 99, 100, 101, 102, 103, 104]⟩, .slice le 1 lke, .slice none 0 0, .slice none 0 0] 31)).drew (.agg #[.string ⟨#[108, 105, 98]⟩, .int .i64 1, .int .i64 9, .string ⟨#[97, 98, 99, 100, 101, 102, 103, 104]⟩, .slice le 1 lke, .slice none 0 0, .slice none 0 0]) lib9M) := HM12.out.below (n₀ := (w11.alloc (.cells #[.string ⟨#[108, 105, 98]⟩, .int .i64 1, .int .i64 9, .string ⟨#[97, 98, 99, 100, 101, 102, 103, 104]⟩, .slice le 1 lke, .slice none 0 0, .slice none 0 0] 31)).heap.size) ((Below.refl _ _).drew)
  clear HB15 HC15_0 HC15_1 HC15_2 HC16 HF15_0 HM12
  generalize (w11.alloc (.cells #[.string ⟨#[108, 105, 98]⟩, .int .i64 1, .int .i64 9, .string ⟨#[97, 98, 99, 100, 101, 102, 103, 104]⟩, .slice le 1 lke, .slice none 0 0, .slice none 0 0] 31)).drew = w12 at *
  generalize w11.heap.size = gM at *
  refine wpL_take 1 30 (.agg #[.string ⟨#[108, 105, 98]⟩, .int .i64 1, .int .i64 9, .string ⟨#[97, 98, 99, 100, 101, 102, 103, 104]⟩, .slice le 1 lke, .slice none 0 0, .slice none 0 0]) rfl (by kernel_rfl) (fun _ _ _ h => h) HCd_3.out rfl rfl (fun w' hSw => by have q0 := CellsAt.cell hSw 0; have q1 := CellsAt.cell hSw 1; have q2 := CellsAt.cell hSw 2; have q3 := CellsAt.cell hSw 3; have q4 := CellsAt.cell hSw 4; have q5 := CellsAt.cell hSw 5; have q6 := CellsAt.cell hSw 6; simp at q0 q1 q2 q3 q4 q5 q6; clear hSw; go_simp) ?_
  simp only [List.setIfInBounds_toArray, List.set_cons_zero, List.set_cons_succ]
  refine wpL_two (i := 0) (j := 6) rfl rfl (by kernel_rfl) (fun Kq hK => ?_) (fun Kq hK => ?_)
  · go_simp
    refine (reg_any _).mono ?_
    rintro e wrA ⟨v4, l4, rfl, hl4, hR4, br⟩
    have HB18 : Hid (Below w.heap.size w wrA) := HBd.out.trans (br.mono HBd.out.size)
    have HC18_0 : Hid (CellsAt wrA gA 27 #[.int .i64 ma, .int .i64 mi, .slice q lk j, .slice (some ⟨b, off, none⟩) 3 c]) := HCd_0.out.below br HCd_0.out.lt
    have HC18_1 : Hid (CellsAt wrA gB 27 #[.int .i64 mb, .int .i64 nb, .slice qb kb jb, .slice xb 1 cb]) := HCd_1.out.below br HCd_1.out.lt
    have HC18_2 : Hid (CellsAt wrA gS 27 #[.int .i64 ms, .int .i64 ns, .slice qs ks js, .slice xs ls cs]) := HCd_2.out.below br HCd_2.out.lt
    have HC18_3 : Hid (CellsAt wrA gM 31 #[.string ⟨#[108, 105, 98]⟩, .int .i64 1, .int .i64 9, .string ⟨#[97, 98, 99, 100, 101, 102, 103, 104]⟩, .slice le 1 lke, .slice none 0 0, .slice none 0 0]) := HCd_3.out.below br HCd_3.out.lt
    have HF18_0 : Hid (wrA.cell? ⟨b, off, none⟩ = some (.string ⟨#[101, 120, 116, 114, 97]⟩) ∧ (⟨b, off, none⟩ : Addr).block < wrA.heap.size) := ⟨(br.cell (p := ⟨b, off, none⟩) HFd_0.out.2).trans HFd_0.out.1, Nat.lt_of_lt_of_le HFd_0.out.2 br.size⟩
    clear HBd HCd_0 HCd_1 HCd_2 HCd_3 HFd_0
    have HMrA : Hid (IsMod wrA.heap.size wrA (.agg #[.string ⟨#[108, 105, 98]⟩, .int .i64 1, .int .i64 9, .string ⟨#[97, 98, 99, 100, 101, 102, 103, 104]⟩, .slice le 1 lke, .slice none 0 0, .slice none 0 0]) lib9M) := (HMd.out.below br).more br.size
    have HRrA : Hid (IsReg wrA.heap.size wrA v4 kernK l4) := hR4
    have HLr : Hid (l4.map PV.plc = pairL) := hl4
    clear br hR4 hl4 HMd
    go_simp
    refine hK.out _ _ HC18_3.out (fun _ => ?_)
    clear hK Kq
    refine wpL_two (i := 2) (j := 6) rfl rfl (by kernel_rfl) (fun Kq hK => ?_) (fun Kq hK => ?_)
    · go_simp
      refine (HUP.out l4 v4 _ _ HLr.out HRrA.out HMrA.out).mono ?_
      rintro e wuA ⟨⟨mu, nu, qu, ku, ju, bu, ou, cu, rfl, hbu, hu15, hu10⟩, bu4⟩
      have HB19 : Hid (Below w.heap.size w wuA) := HB18.out.trans (bu4.mono HB18.out.size)
      have HC19_0 : Hid (CellsAt wuA gA 27 #[.int .i64 ma, .int .i64 mi, .slice q lk j, .slice (some ⟨b, off, none⟩) 3 c]) := HC18_0.out.below bu4 HC18_0.out.lt
      have HC19_1 : Hid (CellsAt wuA gB 27 #[.int .i64 mb, .int .i64 nb, .slice qb kb jb, .slice xb 1 cb]) := HC18_1.out.below bu4 HC18_1.out.lt
      have HC19_2 : Hid (CellsAt wuA gS 27 #[.int .i64 ms, .int .i64 ns, .slice qs ks js, .slice xs ls cs]) := HC18_2.out.below bu4 HC18_2.out.lt
      have HC19_3 : Hid (CellsAt wuA gM 31 #[.string ⟨#[108, 105, 98]⟩, .int .i64 1, .int .i64 9, .string ⟨#[97, 98, 99, 100, 101, 102, 103, 104]⟩, .slice le 1 lke, .slice none 0 0, .slice none 0 0]) := HC18_3.out.below bu4 HC18_3.out.lt
      have HF19_0 : Hid (wuA.cell? ⟨b, off, none⟩ = some (.string ⟨#[101, 120, 116, 114, 97]⟩) ∧ (⟨b, off, none⟩ : Addr).block < wuA.heap.size) := ⟨(bu4.cell (p := ⟨b, off, none⟩) HF18_0.out.2).trans HF18_0.out.1, Nat.lt_of_lt_of_le HF18_0.out.2 bu4.size⟩
      clear HB18 HC18_0 HC18_1 HC18_2 HC18_3 HF18_0
      have HU15 : Hid (wuA.cell? ⟨bu, ou + 15, none⟩ = some (.int .i64 4) ∧ (⟨bu, ou + 15, none⟩ : Addr).block < wuA.heap.size) := ⟨hu15, hbu⟩
      have HU10 : Hid (wuA.cell? ⟨bu, ou + 10, none⟩ = some (.int .i64 9) ∧ (⟨bu, ou + 10, none⟩ : Addr).block < wuA.heap.size) := ⟨hu10, hbu⟩
      clear bu4 hu15 hu10 hbu HUP HLr HRrA HMrA
      go_simp
      refine hK.out _ _ HC19_3.out (fun _ => ?_)
      clear hK Kq
      refine wpL_take 3 28 (.tuple #[.agg #[.int .i64 mu, .int .i64 nu, .slice qu ku ju, .slice (some ⟨bu, ou, none⟩) 2 cu], .int .i64 0]) rfl (by kernel_rfl) (fun _ _ _ h => h) HC19_3.out rfl rfl (fun w' hSw => by clear hSw; go_simp) ?_
      simp only [List.setIfInBounds_toArray, List.set_cons_zero, List.set_cons_succ]
      refine wpL_take 4 32 (.agg #[.int .i64 mu, .int .i64 nu, .slice qu ku ju, .slice (some ⟨bu, ou, none⟩) 2 cu]) rfl (by kernel_rfl) (fun _ _ _ h => h) HC19_3.out rfl rfl (fun w' hSw => by clear hSw; go_simp) ?_
      simp only [List.setIfInBounds_toArray, List.set_cons_zero, List.set_cons_succ]
      refine wpL_take 5 33 (.int .i64 0) rfl (by kernel_rfl) (fun _ _ _ h => h) HC19_3.out rfl rfl (fun w' hSw => by clear hSw; go_simp) ?_
      simp only [List.setIfInBounds_toArray, List.set_cons_zero, List.set_cons_succ]
      refine wpL_step (i := 6) rfl (by kernel_rfl) (fun Kq hK => ?_)
      go_simp
      have ba : Below wuA.heap.size wuA (wuA.alloc (.cells #[.int .i64 0, .int .i64 0, .slice none 0 0, .slice none 0 0] 27)) := (Below.refl _ _).alloc (Nat.le_refl _) _
      have ol_gA_gU : gA < wuA.heap.size := CellsAt.lt HC19_0.out
      have ol_gB_gU : gB < wuA.heap.size := CellsAt.lt HC19_1.out
      have ol_gS_gU : gS < wuA.heap.size := CellsAt.lt HC19_2.out
      have ol_gM_gU : gM < wuA.heap.size := CellsAt.lt HC19_3.out
      have olw_gU : w.heap.size ≤ wuA.heap.size := HB19.out.size
      have HB20 : Hid (Below w.heap.size w (wuA.alloc (.cells #[.int .i64 0, .int .i64 0, .slice none 0 0, .slice none 0 0] 27))) := HB19.out.trans (ba.mono HB19.out.size)
      have HC20_0 : Hid (CellsAt (wuA.alloc (.cells #[.int .i64 0, .int .i64 0, .slice none 0 0, .slice none 0 0] 27)) gA 27 #[.int .i64 ma, .int .i64 mi, .slice q lk j, .slice (some ⟨b, off, none⟩) 3 c]) := HC19_0.out.below ba HC19_0.out.lt
      have HC20_1 : Hid (CellsAt (wuA.alloc (.cells #[.int .i64 0, .int .i64 0, .slice none 0 0, .slice none 0 0] 27)) gB 27 #[.int .i64 mb, .int .i64 nb, .slice qb kb jb, .slice xb 1 cb]) := HC19_1.out.below ba HC19_1.out.lt
      have HC20_2 : Hid (CellsAt (wuA.alloc (.cells #[.int .i64 0, .int .i64 0, .slice none 0 0, .slice none 0 0] 27)) gS 27 #[.int .i64 ms, .int .i64 ns, .slice qs ks js, .slice xs ls cs]) := HC19_2.out.below ba HC19_2.out.lt
      have HC20_3 : Hid (CellsAt (wuA.alloc (.cells #[.int .i64 0, .int .i64 0, .slice none 0 0, .slice none 0 0] 27)) gM 31 #[.string ⟨#[108, 105, 98]⟩, .int .i64 1, .int .i64 9, .string ⟨#[97, 98, 99, 100, 101, 102, 103, 104]⟩, .slice le 1 lke, .slice none 0 0, .slice none 0 0]) := HC19_3.out.below ba HC19_3.out.lt
      have HF20_0 : Hid ((wuA.alloc (.cells #[.int .i64 0, .int .i64 0, .slice none 0 0, .slice none 0 0] 27)).cell? ⟨b, off, none⟩ = some (.string ⟨#[101, 120, 116, 114, 97]⟩) ∧ (⟨b, off, none⟩ : Addr).block < (wuA.alloc (.cells #[.int .i64 0, .int .i64 0, .slice none 0 0, .slice none 0 0] 27)).heap.size) := ⟨(ba.cell (p := ⟨b, off, none⟩) HF19_0.out.2).trans HF19_0.out.1, Nat.lt_of_lt_of_le HF19_0.out.2 ba.size⟩
      have HF20_1 : Hid ((wuA.alloc (.cells #[.int .i64 0, .int .i64 0, .slice none 0 0, .slice none 0 0] 27)).cell? ⟨bu, ou + 15, none⟩ = some (.int .i64 4) ∧ (⟨bu, ou + 15, none⟩ : Addr).block < (wuA.alloc (.cells #[.int .i64 0, .int .i64 0, .slice none 0 0, .slice none 0 0] 27)).heap.size) := ⟨(ba.cell (p := ⟨bu, ou + 15, none⟩) HU15.out.2).trans HU15.out.1, Nat.lt_of_lt_of_le HU15.out.2 ba.size⟩
      have HF20_2 : Hid ((wuA.alloc (.cells #[.int .i64 0, .int .i64 0, .slice none 0 0, .slice none 0 0] 27)).cell? ⟨bu, ou + 10, none⟩ = some (.int .i64 9) ∧ (⟨bu, ou + 10, none⟩ : Addr).block < (wuA.alloc (.cells #[.int .i64 0, .int .i64 0, .slice none 0 0, .slice none 0 0] 27)).heap.size) := ⟨(ba.cell (p := ⟨bu, ou + 10, none⟩) HU10.out.2).trans HU10.out.1, Nat.lt_of_lt_of_le HU10.out.2 ba.size⟩
      clear HB19 HC19_0 HC19_1 HC19_2 HC19_3 HF19_0 HU15 HU10
      clear ba
      have HC21 : Hid (CellsAt (wuA.alloc (.cells #[.int .i64 0, .int .i64 0, .slice none 0 0, .slice none 0 0] 27)) wuA.heap.size 27 #[.int .i64 0, .int .i64 0, .slice none 0 0, .slice none 0 0]) := CellsAt.new _ _ _
      refine hK.out _ _ HC20_3.out (fun _ => ?_)
      clear hK Kq
      generalize (wuA.alloc (.cells #[.int .i64 0, .int .i64 0, .slice none 0 0, .slice none 0 0] 27)) = waA at *
      generalize wuA.heap.size = gU at *
      have z0 := CellsAt.cell HC21.out 0
      have f0 := CellsAt.frozen HC21.out 0
      have z1 := CellsAt.cell HC21.out 1
      have f1 := CellsAt.frozen HC21.out 1
      have z2 := CellsAt.cell HC21.out 2
      have f2 := CellsAt.frozen HC21.out 2
      have z3 := CellsAt.cell HC21.out 3
      have f3 := CellsAt.frozen HC21.out 3
      have zl := CellsAt.lt HC21.out
      simp at z0 z1 z2 z3
      refine wpL_step (i := 7) rfl (by kernel_rfl) (fun Kq hK => ?_)
      go_simp
      have hG := sets4_grown waA gU (.int .i64 mu) (.int .i64 nu) (.slice qu ku ju) (.slice (some ⟨bu, ou, none⟩) 2 cu)
      have HBz : Hid (Below w.heap.size w ((((waA.setCell ⟨gU, 0, none⟩ (.int .i64 mu)).setCell ⟨gU, 1, none⟩ (.int .i64 nu)).setCell ⟨gU, 2, none⟩ (.slice qu ku ju)).setCell ⟨gU, 3, none⟩ (.slice (some ⟨bu, ou, none⟩) 2 cu))) := HB20.out.grown hG HB20.out.size (fun q hq => by obtain rfl := Option.some.inj hq; omega)
      have hne0 : (some (⟨b, off, none⟩ : Addr).block : Option Nat) ≠ some gU := by
        intro e
        have e : b = gU := Option.some.inj e
        subst e
        exact (zreg_cells HC21.out off).1 _ HF20_0.out.1
      have HFz_0 : Hid (((((waA.setCell ⟨gU, 0, none⟩ (.int .i64 mu)).setCell ⟨gU, 1, none⟩ (.int .i64 nu)).setCell ⟨gU, 2, none⟩ (.slice qu ku ju)).setCell ⟨gU, 3, none⟩ (.slice (some ⟨bu, ou, none⟩) 2 cu)).cell? ⟨b, off, none⟩ = some (.string ⟨#[101, 120, 116, 114, 97]⟩) ∧ (⟨b, off, none⟩ : Addr).block < ((((waA.setCell ⟨gU, 0, none⟩ (.int .i64 mu)).setCell ⟨gU, 1, none⟩ (.int .i64 nu)).setCell ⟨gU, 2, none⟩ (.slice qu ku ju)).setCell ⟨gU, 3, none⟩ (.slice (some ⟨bu, ou, none⟩) 2 cu)).heap.size) := ⟨hG.cell HF20_0.out.1 hne0, Nat.lt_of_lt_of_le HF20_0.out.2 hG.size⟩
      clear hne0
      have hne1 : (some (⟨bu, ou + 15, none⟩ : Addr).block : Option Nat) ≠ some gU := by
        intro e
        have e : bu = gU := Option.some.inj e
        subst e
        have h1 := HF20_1.out.1
        rw [zreg_no HC21.out (by omega)] at h1
        cases h1
      have HFz_1 : Hid (((((waA.setCell ⟨gU, 0, none⟩ (.int .i64 mu)).setCell ⟨gU, 1, none⟩ (.int .i64 nu)).setCell ⟨gU, 2, none⟩ (.slice qu ku ju)).setCell ⟨gU, 3, none⟩ (.slice (some ⟨bu, ou, none⟩) 2 cu)).cell? ⟨bu, ou + 15, none⟩ = some (.int .i64 4) ∧ (⟨bu, ou + 15, none⟩ : Addr).block < ((((waA.setCell ⟨gU, 0, none⟩ (.int .i64 mu)).setCell ⟨gU, 1, none⟩ (.int .i64 nu)).setCell ⟨gU, 2, none⟩ (.slice qu ku ju)).setCell ⟨gU, 3, none⟩ (.slice (some ⟨bu, ou, none⟩) 2 cu)).heap.size) := ⟨hG.cell HF20_1.out.1 hne1, Nat.lt_of_lt_of_le HF20_1.out.2 hG.size⟩
      clear hne1
      have hne2 : (some (⟨bu, ou + 10, none⟩ : Addr).block : Option Nat) ≠ some gU := by
        intro e
        have e : bu = gU := Option.some.inj e
        subst e
        have h1 := HF20_2.out.1
        rw [zreg_no HC21.out (by omega)] at h1
        cases h1
      have HFz_2 : Hid (((((waA.setCell ⟨gU, 0, none⟩ (.int .i64 mu)).setCell ⟨gU, 1, none⟩ (.int .i64 nu)).setCell ⟨gU, 2, none⟩ (.slice qu ku ju)).setCell ⟨gU, 3, none⟩ (.slice (some ⟨bu, ou, none⟩) 2 cu)).cell? ⟨bu, ou + 10, none⟩ = some (.int .i64 9) ∧ (⟨bu, ou + 10, none⟩ : Addr).block < ((((waA.setCell ⟨gU, 0, none⟩ (.int .i64 mu)).setCell ⟨gU, 1, none⟩ (.int .i64 nu)).setCell ⟨gU, 2, none⟩ (.slice qu ku ju)).setCell ⟨gU, 3, none⟩ (.slice (some ⟨bu, ou, none⟩) 2 cu)).heap.size) := ⟨hG.cell HF20_2.out.1 hne2, Nat.lt_of_lt_of_le HF20_2.out.2 hG.size⟩
      clear hne2
      have HCz_0 : Hid (CellsAt ((((waA.setCell ⟨gU, 0, none⟩ (.int .i64 mu)).setCell ⟨gU, 1, none⟩ (.int .i64 nu)).setCell ⟨gU, 2, none⟩ (.slice qu ku ju)).setCell ⟨gU, 3, none⟩ (.slice (some ⟨bu, ou, none⟩) 2 cu)) gA 27 #[.int .i64 ma, .int .i64 mi, .slice q lk j, .slice (some ⟨b, off, none⟩) 3 c]) := HC20_0.out.kept hG (by intro e; have := Option.some.inj e; omega)
      have HCz_1 : Hid (CellsAt ((((waA.setCell ⟨gU, 0, none⟩ (.int .i64 mu)).setCell ⟨gU, 1, none⟩ (.int .i64 nu)).setCell ⟨gU, 2, none⟩ (.slice qu ku ju)).setCell ⟨gU, 3, none⟩ (.slice (some ⟨bu, ou, none⟩) 2 cu)) gB 27 #[.int .i64 mb, .int .i64 nb, .slice qb kb jb, .slice xb 1 cb]) := HC20_1.out.kept hG (by intro e; have := Option.some.inj e; omega)
      have HCz_2 : Hid (CellsAt ((((waA.setCell ⟨gU, 0, none⟩ (.int .i64 mu)).setCell ⟨gU, 1, none⟩ (.int .i64 nu)).setCell ⟨gU, 2, none⟩ (.slice qu ku ju)).setCell ⟨gU, 3, none⟩ (.slice (some ⟨bu, ou, none⟩) 2 cu)) gS 27 #[.int .i64 ms, .int .i64 ns, .slice qs ks js, .slice xs ls cs]) := HC20_2.out.kept hG (by intro e; have := Option.some.inj e; omega)
      have HCz_3 : Hid (CellsAt ((((waA.setCell ⟨gU, 0, none⟩ (.int .i64 mu)).setCell ⟨gU, 1, none⟩ (.int .i64 nu)).setCell ⟨gU, 2, none⟩ (.slice qu ku ju)).setCell ⟨gU, 3, none⟩ (.slice (some ⟨bu, ou, none⟩) 2 cu)) gM 31 #[.string ⟨#[108, 105, 98]⟩, .int .i64 1, .int .i64 9, .string ⟨#[97, 98, 99, 100, 101, 102, 103, 104]⟩, .slice le 1 lke, .slice none 0 0, .slice none 0 0]) := HC20_3.out.kept hG (by intro e; have := Option.some.inj e; omega)
      have HCz_4 : Hid (CellsAt ((((waA.setCell ⟨gU, 0, none⟩ (.int .i64 mu)).setCell ⟨gU, 1, none⟩ (.int .i64 nu)).setCell ⟨gU, 2, none⟩ (.slice qu ku ju)).setCell ⟨gU, 3, none⟩ (.slice (some ⟨bu, ou, none⟩) 2 cu)) gU 27 #[.int .i64 mu, .int .i64 nu, .slice qu ku ju, .slice (some ⟨bu, ou, none⟩) 2 cu]) := sets4 HC21.out _ _ _ _
      clear hG z0 z1 z2 z3 f0 f1 f2 f3 zl HB20 HF20_0 HF20_1 HF20_2 HC20_0 HC20_1 HC20_2 HC20_3 HC21
      refine hK.out _ _ HCz_3.out (fun _ => ?_)
      clear hK Kq
      generalize ((((waA.setCell ⟨gU, 0, none⟩ (.int .i64 mu)).setCell ⟨gU, 1, none⟩ (.int .i64 nu)).setCell ⟨gU, 2, none⟩ (.slice qu ku ju)).setCell ⟨gU, 3, none⟩ (.slice (some ⟨bu, ou, none⟩) 2 cu)) = wz at *
      refine wpL_last (x := 8) rfl (by kernel_rfl) (by kernel_rfl) (fun Kq hK => ?_)
      go_simp
      refine hK.out _ _ ?_
      refine NoPanic.normal ?_
      clear hK Kq
      have ygA := CellsAt.cell HCz_0.out 3
      have ylgA := CellsAt.lt HCz_0.out
      have ygB := CellsAt.cell HCz_1.out 3
      have ylgB := CellsAt.lt HCz_1.out
      have ygU := CellsAt.cell HCz_4.out 3
      have ylgU := CellsAt.lt HCz_4.out
      simp at ygA ygB ygU
      obtain ⟨x0, xl0⟩ := HFz_0.out
      obtain ⟨x1, xl1⟩ := HFz_1.out
      obtain ⟨x2, xl2⟩ := HFz_2.out
      dsimp only at xl0 xl1 xl2
      go_wp2
      go_ret
      exact ⟨rfl, HBz.out⟩
    · go_simp
      have ba : Below wrA.heap.size wrA (wrA.alloc (.cells #[.int .i64 0, .int .i64 0, .slice none 0 0, .slice none 0 0] 27)) := (Below.refl _ _).alloc (Nat.le_refl _) _
      have ol_gA_gU : gA < wrA.heap.size := CellsAt.lt HC18_0.out
      have ol_gB_gU : gB < wrA.heap.size := CellsAt.lt HC18_1.out
      have ol_gS_gU : gS < wrA.heap.size := CellsAt.lt HC18_2.out
      have ol_gM_gU : gM < wrA.heap.size := CellsAt.lt HC18_3.out
      have olw_gU : w.heap.size ≤ wrA.heap.size := HB18.out.size
      have HB19 : Hid (Below w.heap.size w (wrA.alloc (.cells #[.int .i64 0, .int .i64 0, .slice none 0 0, .slice none 0 0] 27))) := HB18.out.trans (ba.mono HB18.out.size)
      have HC19_0 : Hid (CellsAt (wrA.alloc (.cells #[.int .i64 0, .int .i64 0, .slice none 0 0, .slice none 0 0] 27)) gA 27 #[.int .i64 ma, .int .i64 mi, .slice q lk j, .slice (some ⟨b, off, none⟩) 3 c]) := HC18_0.out.below ba HC18_0.out.lt
      have HC19_1 : Hid (CellsAt (wrA.alloc (.cells #[.int .i64 0, .int .i64 0, .slice none 0 0, .slice none 0 0] 27)) gB 27 #[.int .i64 mb, .int .i64 nb, .slice qb kb jb, .slice xb 1 cb]) := HC18_1.out.below ba HC18_1.out.lt
      have HC19_2 : Hid (CellsAt (wrA.alloc (.cells #[.int .i64 0, .int .i64 0, .slice none 0 0, .slice none 0 0] 27)) gS 27 #[.int .i64 ms, .int .i64 ns, .slice qs ks js, .slice xs ls cs]) := HC18_2.out.below ba HC18_2.out.lt
      have HC19_3 : Hid (CellsAt (wrA.alloc (.cells #[.int .i64 0, .int .i64 0, .slice none 0 0, .slice none 0 0] 27)) gM 31 #[.string ⟨#[108, 105, 98]⟩, .int .i64 1, .int .i64 9, .string ⟨#[97, 98, 99, 100, 101, 102, 103, 104]⟩, .slice le 1 lke, .slice none 0 0, .slice none 0 0]) := HC18_3.out.below ba HC18_3.out.lt
      have HF19_0 : Hid ((wrA.alloc (.cells #[.int .i64 0, .int .i64 0, .slice none 0 0, .slice none 0 0] 27)).cell? ⟨b, off, none⟩ = some (.string ⟨#[101, 120, 116, 114, 97]⟩) ∧ (⟨b, off, none⟩ : Addr).block < (wrA.alloc (.cells #[.int .i64 0, .int .i64 0, .slice none 0 0, .slice none 0 0] 27)).heap.size) := ⟨(ba.cell (p := ⟨b, off, none⟩) HF18_0.out.2).trans HF18_0.out.1, Nat.lt_of_lt_of_le HF18_0.out.2 ba.size⟩
      clear HB18 HC18_0 HC18_1 HC18_2 HC18_3 HF18_0
      clear ba
      have HC20 : Hid (CellsAt (wrA.alloc (.cells #[.int .i64 0, .int .i64 0, .slice none 0 0, .slice none 0 0] 27)) wrA.heap.size 27 #[.int .i64 0, .int .i64 0, .slice none 0 0, .slice none 0 0]) := CellsAt.new _ _ _
      have hba : Below wrA.heap.size wrA (wrA.alloc (.cells #[.int .i64 0, .int .i64 0, .slice none 0 0, .slice none 0 0] 27)) := (Below.refl _ _).alloc (Nat.le_refl _) _
      have HMaB : Hid (IsMod (wrA.alloc (.cells #[.int .i64 0, .int .i64 0, .slice none 0 0, .slice none 0 0] 27)).heap.size (wrA.alloc (.cells #[.int .i64 0, .int .i64 0, .slice none 0 0, .slice none 0 0] 27)) (.agg #[.string ⟨#[108, 105, 98]⟩, .int .i64 1, .int .i64 9, .string ⟨#[97, 98, 99, 100, 101, 102, 103, 104]⟩, .slice le 1 lke, .slice none 0 0, .slice none 0 0]) lib9M) := (HMrA.out.below hba).more hba.size
      have HRaB : Hid (IsReg (wrA.alloc (.cells #[.int .i64 0, .int .i64 0, .slice none 0 0, .slice none 0 0] 27)).heap.size (wrA.alloc (.cells #[.int .i64 0, .int .i64 0, .slice none 0 0, .slice none 0 0] 27)) v4 kernK l4) := (HRrA.out.below hba).more hba.size
      clear hba HMrA HRrA
      refine hK.out _ _ HC19_3.out (fun _ => ?_)
      clear hK Kq
      generalize (wrA.alloc (.cells #[.int .i64 0, .int .i64 0, .slice none 0 0, .slice none 0 0] 27)) = waB at *
      generalize wrA.heap.size = gU at *
      refine wpL_step (i := 2) rfl (by kernel_rfl) (fun Kq hK => ?_)
      go_simp
      refine (HUP.out l4 v4 _ _ HLr.out HRaB.out HMaB.out).mono ?_
      rintro e wuB ⟨⟨mu, nu, qu, ku, ju, bu, ou, cu, rfl, hbu, hu15, hu10⟩, bu4⟩
      have HB21 : Hid (Below w.heap.size w wuB) := HB19.out.trans (bu4.mono HB19.out.size)
      have HC21_0 : Hid (CellsAt wuB gA 27 #[.int .i64 ma, .int .i64 mi, .slice q lk j, .slice (some ⟨b, off, none⟩) 3 c]) := HC19_0.out.below bu4 HC19_0.out.lt
      have HC21_1 : Hid (CellsAt wuB gB 27 #[.int .i64 mb, .int .i64 nb, .slice qb kb jb, .slice xb 1 cb]) := HC19_1.out.below bu4 HC19_1.out.lt
      have HC21_2 : Hid (CellsAt wuB gS 27 #[.int .i64 ms, .int .i64 ns, .slice qs ks js, .slice xs ls cs]) := HC19_2.out.below bu4 HC19_2.out.lt
      have HC21_3 : Hid (CellsAt wuB gM 31 #[.string ⟨#[108, 105, 98]⟩, .int .i64 1, .int .i64 9, .string ⟨#[97, 98, 99, 100, 101, 102, 103, 104]⟩, .slice le 1 lke, .slice none 0 0, .slice none 0 0]) := HC19_3.out.below bu4 HC19_3.out.lt
      have HC21_4 : Hid (CellsAt wuB gU 27 #[.int .i64 0, .int .i64 0, .slice none 0 0, .slice none 0 0]) := HC20.out.below bu4 HC20.out.lt
      have HF21_0 : Hid (wuB.cell? ⟨b, off, none⟩ = some (.string ⟨#[101, 120, 116, 114, 97]⟩) ∧ (⟨b, off, none⟩ : Addr).block < wuB.heap.size) := ⟨(bu4.cell (p := ⟨b, off, none⟩) HF19_0.out.2).trans HF19_0.out.1, Nat.lt_of_lt_of_le HF19_0.out.2 bu4.size⟩
      clear HB19 HC19_0 HC19_1 HC19_2 HC19_3 HC20 HF19_0
      have HU15 : Hid (wuB.cell? ⟨bu, ou + 15, none⟩ = some (.int .i64 4) ∧ (⟨bu, ou + 15, none⟩ : Addr).block < wuB.heap.size) := ⟨hu15, hbu⟩
      have HU10 : Hid (wuB.cell? ⟨bu, ou + 10, none⟩ = some (.int .i64 9) ∧ (⟨bu, ou + 10, none⟩ : Addr).block < wuB.heap.size) := ⟨hu10, hbu⟩
      clear bu4 hu15 hu10 hbu HUP HLr HRaB HMaB
      go_simp
      refine hK.out _ _ HC21_3.out (fun _ => ?_)
      clear hK Kq
      refine wpL_take 3 28 (.tuple #[.agg #[.int .i64 mu, .int .i64 nu, .slice qu ku ju, .slice (some ⟨bu, ou, none⟩) 2 cu], .int .i64 0]) rfl (by kernel_rfl) (fun _ _ _ h => h) HC21_3.out rfl rfl (fun w' hSw => by clear hSw; go_simp) ?_
      simp only [List.setIfInBounds_toArray, List.set_cons_zero, List.set_cons_succ]
      refine wpL_take 4 32 (.agg #[.int .i64 mu, .int .i64 nu, .slice qu ku ju, .slice (some ⟨bu, ou, none⟩) 2 cu]) rfl (by kernel_rfl) (fun _ _ _ h => h) HC21_3.out rfl rfl (fun w' hSw => by clear hSw; go_simp) ?_
      simp only [List.setIfInBounds_toArray, List.set_cons_zero, List.set_cons_succ]
      refine wpL_take 5 33 (.int .i64 0) rfl (by kernel_rfl) (fun _ _ _ h => h) HC21_3.out rfl rfl (fun w' hSw => by clear hSw; go_simp) ?_
      simp only [List.setIfInBounds_toArray, List.set_cons_zero, List.set_cons_succ]
      have z0 := CellsAt.cell HC21_4.out 0
      have f0 := CellsAt.frozen HC21_4.out 0
      have z1 := CellsAt.cell HC21_4.out 1
      have f1 := CellsAt.frozen HC21_4.out 1
      have z2 := CellsAt.cell HC21_4.out 2
      have f2 := CellsAt.frozen HC21_4.out 2
      have z3 := CellsAt.cell HC21_4.out 3
      have f3 := CellsAt.frozen HC21_4.out 3
      have zl := CellsAt.lt HC21_4.out
      simp at z0 z1 z2 z3
      refine wpL_step (i := 7) rfl (by kernel_rfl) (fun Kq hK => ?_)
      go_simp
      have hG := sets4_grown wuB gU (.int .i64 mu) (.int .i64 nu) (.slice qu ku ju) (.slice (some ⟨bu, ou, none⟩) 2 cu)
      have HBz : Hid (Below w.heap.size w ((((wuB.setCell ⟨gU, 0, none⟩ (.int .i64 mu)).setCell ⟨gU, 1, none⟩ (.int .i64 nu)).setCell ⟨gU, 2, none⟩ (.slice qu ku ju)).setCell ⟨gU, 3, none⟩ (.slice (some ⟨bu, ou, none⟩) 2 cu))) := HB21.out.grown hG HB21.out.size (fun q hq => by obtain rfl := Option.some.inj hq; omega)
      have hne0 : (some (⟨b, off, none⟩ : Addr).block : Option Nat) ≠ some gU := by
        intro e
        have e : b = gU := Option.some.inj e
        subst e
        exact (zreg_cells HC21_4.out off).1 _ HF21_0.out.1
      have HFz_0 : Hid (((((wuB.setCell ⟨gU, 0, none⟩ (.int .i64 mu)).setCell ⟨gU, 1, none⟩ (.int .i64 nu)).setCell ⟨gU, 2, none⟩ (.slice qu ku ju)).setCell ⟨gU, 3, none⟩ (.slice (some ⟨bu, ou, none⟩) 2 cu)).cell? ⟨b, off, none⟩ = some (.string ⟨#[101, 120, 116, 114, 97]⟩) ∧ (⟨b, off, none⟩ : Addr).block < ((((wuB.setCell ⟨gU, 0, none⟩ (.int .i64 mu)).setCell ⟨gU, 1, none⟩ (.int .i64 nu)).setCell ⟨gU, 2, none⟩ (.slice qu ku ju)).setCell ⟨gU, 3, none⟩ (.slice (some ⟨bu, ou, none⟩) 2 cu)).heap.size) := ⟨hG.cell HF21_0.out.1 hne0, Nat.lt_of_lt_of_le HF21_0.out.2 hG.size⟩
      clear hne0
      have hne1 : (some (⟨bu, ou + 15, none⟩ : Addr).block : Option Nat) ≠ some gU := by
        intro e
        have e : bu = gU := Option.some.inj e
        subst e
        have h1 := HU15.out.1
        rw [zreg_no HC21_4.out (by omega)] at h1
        cases h1
      have HFz_1 : Hid (((((wuB.setCell ⟨gU, 0, none⟩ (.int .i64 mu)).setCell ⟨gU, 1, none⟩ (.int .i64 nu)).setCell ⟨gU, 2, none⟩ (.slice qu ku ju)).setCell ⟨gU, 3, none⟩ (.slice (some ⟨bu, ou, none⟩) 2 cu)).cell? ⟨bu, ou + 15, none⟩ = some (.int .i64 4) ∧ (⟨bu, ou + 15, none⟩ : Addr).block < ((((wuB.setCell ⟨gU, 0, none⟩ (.int .i64 mu)).setCell ⟨gU, 1, none⟩ (.int .i64 nu)).setCell ⟨gU, 2, none⟩ (.slice qu ku ju)).setCell ⟨gU, 3, none⟩ (.slice (some ⟨bu, ou, none⟩) 2 cu)).heap.size) := ⟨hG.cell HU15.out.1 hne1, Nat.lt_of_lt_of_le HU15.out.2 hG.size⟩
      clear hne1
      have hne2 : (some (⟨bu, ou + 10, none⟩ : Addr).block : Option Nat) ≠ some gU := by
        intro e
        have e : bu = gU := Option.some.inj e
        subst e
        have h1 := HU10.out.1
        rw [zreg_no HC21_4.out (by omega)] at h1
        cases h1
      have HFz_2 : Hid (((((wuB.setCell ⟨gU, 0, none⟩ (.int .i64 mu)).setCell ⟨gU, 1, none⟩ (.int .i64 nu)).setCell ⟨gU, 2, none⟩ (.slice qu ku ju)).setCell ⟨gU, 3, none⟩ (.slice (some ⟨bu, ou, none⟩) 2 cu)).cell? ⟨bu, ou + 10, none⟩ = some (.int .i64 9) ∧ (⟨bu, ou + 10, none⟩ : Addr).block < ((((wuB.setCell ⟨gU, 0, none⟩ (.int .i64 mu)).setCell ⟨gU, 1, none⟩ (.int .i64 nu)).setCell ⟨gU, 2, none⟩ (.slice qu ku ju)).setCell ⟨gU, 3, none⟩ (.slice (some ⟨bu, ou, none⟩) 2 cu)).heap.size) := ⟨hG.cell HU10.out.1 hne2, Nat.lt_of_lt_of_le HU10.out.2 hG.size⟩
      clear hne2
      have HCz_0 : Hid (CellsAt ((((wuB.setCell ⟨gU, 0, none⟩ (.int .i64 mu)).setCell ⟨gU, 1, none⟩ (.int .i64 nu)).setCell ⟨gU, 2, none⟩ (.slice qu ku ju)).setCell ⟨gU, 3, none⟩ (.slice (some ⟨bu, ou, none⟩) 2 cu)) gA 27 #[.int .i64 ma, .int .i64 mi, .slice q lk j, .slice (some ⟨b, off, none⟩) 3 c]) := HC21_0.out.kept hG (by intro e; have := Option.some.inj e; omega)
      have HCz_1 : Hid (CellsAt ((((wuB.setCell ⟨gU, 0, none⟩ (.int .i64 mu)).setCell ⟨gU, 1, none⟩ (.int .i64 nu)).setCell ⟨gU, 2, none⟩ (.slice qu ku ju)).setCell ⟨gU, 3, none⟩ (.slice (some ⟨bu, ou, none⟩) 2 cu)) gB 27 #[.int .i64 mb, .int .i64 nb, .slice qb kb jb, .slice xb 1 cb]) := HC21_1.out.kept hG (by intro e; have := Option.some.inj e; omega)
      have HCz_2 : Hid (CellsAt ((((wuB.setCell ⟨gU, 0, none⟩ (.int .i64 mu)).setCell ⟨gU, 1, none⟩ (.int .i64 nu)).setCell ⟨gU, 2, none⟩ (.slice qu ku ju)).setCell ⟨gU, 3, none⟩ (.slice (some ⟨bu, ou, none⟩) 2 cu)) gS 27 #[.int .i64 ms, .int .i64 ns, .slice qs ks js, .slice xs ls cs]) := HC21_2.out.kept hG (by intro e; have := Option.some.inj e; omega)
      have HCz_3 : Hid (CellsAt ((((wuB.setCell ⟨gU, 0, none⟩ (.int .i64 mu)).setCell ⟨gU, 1, none⟩ (.int .i64 nu)).setCell ⟨gU, 2, none⟩ (.slice qu ku ju)).setCell ⟨gU, 3, none⟩ (.slice (some ⟨bu, ou, none⟩) 2 cu)) gM 31 #[.string ⟨#[108, 105, 98]⟩, .int .i64 1, .int .i64 9, .string ⟨#[97, 98, 99, 100, 101, 102, 103, 104]⟩, .slice le 1 lke, .slice none 0 0, .slice none 0 0]) := HC21_3.out.kept hG (by intro e; have := Option.some.inj e; omega)
      have HCz_4 : Hid (CellsAt ((((wuB.setCell ⟨gU, 0, none⟩ (.int .i64 mu)).setCell ⟨gU, 1, none⟩ (.int .i64 nu)).setCell ⟨gU, 2, none⟩ (.slice qu ku ju)).setCell ⟨gU, 3, none⟩ (.slice (some ⟨bu, ou, none⟩) 2 cu)) gU 27 #[.int .i64 mu, .int .i64 nu, .slice qu ku ju, .slice (some ⟨bu, ou, none⟩) 2 cu]) := sets4 HC21_4.out _ _ _ _
      clear hG z0 z1 z2 z3 f0 f1 f2 f3 zl HB21 HF21_0 HU15 HU10 HC21_0 HC21_1 HC21_2 HC21_3 HC21_4
      refine hK.out _ _ HCz_3.out (fun _ => ?_)
      clear hK Kq
      generalize ((((wuB.setCell ⟨gU, 0, none⟩ (.int .i64 mu)).setCell ⟨gU, 1, none⟩ (.int .i64 nu)).setCell ⟨gU, 2, none⟩ (.slice qu ku ju)).setCell ⟨gU, 3, none⟩ (.slice (some ⟨bu, ou, none⟩) 2 cu)) = wz at *
      refine wpL_last (x := 8) rfl (by kernel_rfl) (by kernel_rfl) (fun Kq hK => ?_)
      go_simp
      refine hK.out _ _ ?_
      refine NoPanic.normal ?_
      clear hK Kq
      have ygA := CellsAt.cell HCz_0.out 3
      have ylgA := CellsAt.lt HCz_0.out
      have ygB := CellsAt.cell HCz_1.out 3
      have ylgB := CellsAt.lt HCz_1.out
      have ygU := CellsAt.cell HCz_4.out 3
      have ylgU := CellsAt.lt HCz_4.out
      simp at ygA ygB ygU
      obtain ⟨x0, xl0⟩ := HFz_0.out
      obtain ⟨x1, xl1⟩ := HFz_1.out
      obtain ⟨x2, xl2⟩ := HFz_2.out
      dsimp only at xl0 xl1 xl2
      go_wp2
      go_ret
      exact ⟨rfl, HBz.out⟩
  · go_simp
    have ba : Below w12.heap.size w12 (w12.alloc (.cells #[.int .i64 0, .int .i64 0, .slice none 0 0, .slice none 0 0] 27)) := (Below.refl _ _).alloc (Nat.le_refl _) _
    have ol_gA_gU : gA < w12.heap.size := CellsAt.lt HCd_0.out
    have ol_gB_gU : gB < w12.heap.size := CellsAt.lt HCd_1.out
    have ol_gS_gU : gS < w12.heap.size := CellsAt.lt HCd_2.out
    have ol_gM_gU : gM < w12.heap.size := CellsAt.lt HCd_3.out
    have olw_gU : w.heap.size ≤ w12.heap.size := HBd.out.size
    have HB18 : Hid (Below w.heap.size w (w12.alloc (.cells #[.int .i64 0, .int .i64 0, .slice none 0 0, .slice none 0 0] 27))) := HBd.out.trans (ba.mono HBd.out.size)
    have HC18_0 : Hid (CellsAt (w12.alloc (.cells #[.int .i64 0, .int .i64 0, .slice none 0 0, .slice none 0 0] 27)) gA 27 #[.int .i64 ma, .int .i64 mi, .slice q lk j, .slice (some ⟨b, off, none⟩) 3 c]) := HCd_0.out.below ba HCd_0.out.lt
    have HC18_1 : Hid (CellsAt (w12.alloc (.cells #[.int .i64 0, .int .i64 0, .slice none 0 0, .slice none 0 0] 27)) gB 27 #[.int .i64 mb, .int .i64 nb, .slice qb kb jb, .slice xb 1 cb]) := HCd_1.out.below ba HCd_1.out.lt
    have HC18_2 : Hid (CellsAt (w12.alloc (.cells #[.int .i64 0, .int .i64 0, .slice none 0 0, .slice none 0 0] 27)) gS 27 #[.int .i64 ms, .int .i64 ns, .slice qs ks js, .slice xs ls cs]) := HCd_2.out.below ba HCd_2.out.lt
    have HC18_3 : Hid (CellsAt (w12.alloc (.cells #[.int .i64 0, .int .i64 0, .slice none 0 0, .slice none 0 0] 27)) gM 31 #[.string ⟨#[108, 105, 98]⟩, .int .i64 1, .int .i64 9, .string ⟨#[97, 98, 99, 100, 101, 102, 103, 104]⟩, .slice le 1 lke, .slice none 0 0, .slice none 0 0]) := HCd_3.out.below ba HCd_3.out.lt
    have HF18_0 : Hid ((w12.alloc (.cells #[.int .i64 0, .int .i64 0, .slice none 0 0, .slice none 0 0] 27)).cell? ⟨b, off, none⟩ = some (.string ⟨#[101, 120, 116, 114, 97]⟩) ∧ (⟨b, off, none⟩ : Addr).block < (w12.alloc (.cells #[.int .i64 0, .int .i64 0, .slice none 0 0, .slice none 0 0] 27)).heap.size) := ⟨(ba.cell (p := ⟨b, off, none⟩) HFd_0.out.2).trans HFd_0.out.1, Nat.lt_of_lt_of_le HFd_0.out.2 ba.size⟩
    clear HBd HCd_0 HCd_1 HCd_2 HCd_3 HFd_0
    clear ba
    have HC19 : Hid (CellsAt (w12.alloc (.cells #[.int .i64 0, .int .i64 0, .slice none 0 0, .slice none 0 0] 27)) w12.heap.size 27 #[.int .i64 0, .int .i64 0, .slice none 0 0, .slice none 0 0]) := CellsAt.new _ _ _
    have hba : Below w12.heap.size w12 (w12.alloc (.cells #[.int .i64 0, .int .i64 0, .slice none 0 0, .slice none 0 0] 27)) := (Below.refl _ _).alloc (Nat.le_refl _) _
    have HMaC : Hid (IsMod (w12.alloc (.cells #[.int .i64 0, .int .i64 0, .slice none 0 0, .slice none 0 0] 27)).heap.size (w12.alloc (.cells #[.int .i64 0, .int .i64 0, .slice none 0 0, .slice none 0 0] 27)) (.agg #[.string ⟨#[108, 105, 98]⟩, .int .i64 1, .int .i64 9, .string ⟨#[97, 98, 99, 100, 101, 102, 103, 104]⟩, .slice le 1 lke, .slice none 0 0, .slice none 0 0]) lib9M) := (HMd.out.below hba).more hba.size
    clear hba HMd
    refine hK.out _ _ HC18_3.out (fun _ => ?_)
    clear hK Kq
    generalize (w12.alloc (.cells #[.int .i64 0, .int .i64 0, .slice none 0 0, .slice none 0 0] 27)) = waC at *
    generalize w12.heap.size = gU at *
    refine wpL_step (i := 0) rfl (by kernel_rfl) (fun Kq hK => ?_)
    go_simp
    refine (reg_any _).mono ?_
    rintro e wrC ⟨v4, l4, rfl, hl4, hR4, br⟩
    have HB20 : Hid (Below w.heap.size w wrC) := HB18.out.trans (br.mono HB18.out.size)
    have HC20_0 : Hid (CellsAt wrC gA 27 #[.int .i64 ma, .int .i64 mi, .slice q lk j, .slice (some ⟨b, off, none⟩) 3 c]) := HC18_0.out.below br HC18_0.out.lt
    have HC20_1 : Hid (CellsAt wrC gB 27 #[.int .i64 mb, .int .i64 nb, .slice qb kb jb, .slice xb 1 cb]) := HC18_1.out.below br HC18_1.out.lt
    have HC20_2 : Hid (CellsAt wrC gS 27 #[.int .i64 ms, .int .i64 ns, .slice qs ks js, .slice xs ls cs]) := HC18_2.out.below br HC18_2.out.lt
    have HC20_3 : Hid (CellsAt wrC gM 31 #[.string ⟨#[108, 105, 98]⟩, .int .i64 1, .int .i64 9, .string ⟨#[97, 98, 99, 100, 101, 102, 103, 104]⟩, .slice le 1 lke, .slice none 0 0, .slice none 0 0]) := HC18_3.out.below br HC18_3.out.lt
    have HC20_4 : Hid (CellsAt wrC gU 27 #[.int .i64 0, .int .i64 0, .slice none 0 0, .slice none 0 0]) := HC19.out.below br HC19.out.lt
    have HF20_0 : Hid (wrC.cell? ⟨b, off, none⟩ = some (.string ⟨#[101, 120, 116, 114, 97]⟩) ∧ (⟨b, off, none⟩ : Addr).block < wrC.heap.size) := ⟨(br.cell (p := ⟨b, off, none⟩) HF18_0.out.2).trans HF18_0.out.1, Nat.lt_of_lt_of_le HF18_0.out.2 br.size⟩
    clear HB18 HC18_0 HC18_1 HC18_2 HC18_3 HC19 HF18_0
    have HMrC : Hid (IsMod wrC.heap.size wrC (.agg #[.string ⟨#[108, 105, 98]⟩, .int .i64 1, .int .i64 9, .string ⟨#[97, 98, 99, 100, 101, 102, 103, 104]⟩, .slice le 1 lke, .slice none 0 0, .slice none 0 0]) lib9M) := (HMaC.out.below br).more br.size
    have HRrC : Hid (IsReg wrC.heap.size wrC v4 kernK l4) := hR4
    have HLr : Hid (l4.map PV.plc = pairL) := hl4
    clear br hR4 hl4 HMaC
    go_simp
    refine hK.out _ _ HC20_3.out (fun _ => ?_)
    clear hK Kq
    refine wpL_step (i := 2) rfl (by kernel_rfl) (fun Kq hK => ?_)
    go_simp
    refine (HUP.out l4 v4 _ _ HLr.out HRrC.out HMrC.out).mono ?_
    rintro e wuC ⟨⟨mu, nu, qu, ku, ju, bu, ou, cu, rfl, hbu, hu15, hu10⟩, bu4⟩
    have HB21 : Hid (Below w.heap.size w wuC) := HB20.out.trans (bu4.mono HB20.out.size)
    have HC21_0 : Hid (CellsAt wuC gA 27 #[.int .i64 ma, .int .i64 mi, .slice q lk j, .slice (some ⟨b, off, none⟩) 3 c]) := HC20_0.out.below bu4 HC20_0.out.lt
    have HC21_1 : Hid (CellsAt wuC gB 27 #[.int .i64 mb, .int .i64 nb, .slice qb kb jb, .slice xb 1 cb]) := HC20_1.out.below bu4 HC20_1.out.lt
    have HC21_2 : Hid (CellsAt wuC gS 27 #[.int .i64 ms, .int .i64 ns, .slice qs ks js, .slice xs ls cs]) := HC20_2.out.below bu4 HC20_2.out.lt
    have HC21_3 : Hid (CellsAt wuC gM 31 #[.string ⟨#[108, 105, 98]⟩, .int .i64 1, .int .i64 9, .string ⟨#[97, 98, 99, 100, 101, 102, 103, 104]⟩, .slice le 1 lke, .slice none 0 0, .slice none 0 0]) := HC20_3.out.below bu4 HC20_3.out.lt
    have HC21_4 : Hid (CellsAt wuC gU 27 #[.int .i64 0, .int .i64 0, .slice none 0 0, .slice none 0 0]) := HC20_4.out.below bu4 HC20_4.out.lt
    have HF21_0 : Hid (wuC.cell? ⟨b, off, none⟩ = some (.string ⟨#[101, 120, 116, 114, 97]⟩) ∧ (⟨b, off, none⟩ : Addr).block < wuC.heap.size) := ⟨(bu4.cell (p := ⟨b, off, none⟩) HF20_0.out.2).trans HF20_0.out.1, Nat.lt_of_lt_of_le HF20_0.out.2 bu4.size⟩
    clear HB20 HC20_0 HC20_1 HC20_2 HC20_3 HC20_4 HF20_0
    have HU15 : Hid (wuC.cell? ⟨bu, ou + 15, none⟩ = some (.int .i64 4) ∧ (⟨bu, ou + 15, none⟩ : Addr).block < wuC.heap.size) := ⟨hu15, hbu⟩
    have HU10 : Hid (wuC.cell? ⟨bu, ou + 10, none⟩ = some (.int .i64 9) ∧ (⟨bu, ou + 10, none⟩ : Addr).block < wuC.heap.size) := ⟨hu10, hbu⟩
    clear bu4 hu15 hu10 hbu HUP HLr HRrC HMrC
    go_simp
    refine hK.out _ _ HC21_3.out (fun _ => ?_)
    clear hK Kq
    refine wpL_take 3 28 (.tuple #[.agg #[.int .i64 mu, .int .i64 nu, .slice qu ku ju, .slice (some ⟨bu, ou, none⟩) 2 cu], .int .i64 0]) rfl (by kernel_rfl) (fun _ _ _ h => h) HC21_3.out rfl rfl (fun w' hSw => by clear hSw; go_simp) ?_
    simp only [List.setIfInBounds_toArray, List.set_cons_zero, List.set_cons_succ]
    refine wpL_take 4 32 (.agg #[.int .i64 mu, .int .i64 nu, .slice qu ku ju, .slice (some ⟨bu, ou, none⟩) 2 cu]) rfl (by kernel_rfl) (fun _ _ _ h => h) HC21_3.out rfl rfl (fun w' hSw => by clear hSw; go_simp) ?_
    simp only [List.setIfInBounds_toArray, List.set_cons_zero, List.set_cons_succ]
    refine wpL_take 5 33 (.int .i64 0) rfl (by kernel_rfl) (fun _ _ _ h => h) HC21_3.out rfl rfl (fun w' hSw => by clear hSw; go_simp) ?_
    simp only [List.setIfInBounds_toArray, List.set_cons_zero, List.set_cons_succ]
    have z0 := CellsAt.cell HC21_4.out 0
    have f0 := CellsAt.frozen HC21_4.out 0
    have z1 := CellsAt.cell HC21_4.out 1
    have f1 := CellsAt.frozen HC21_4.out 1
    have z2 := CellsAt.cell HC21_4.out 2
    have f2 := CellsAt.frozen HC21_4.out 2
    have z3 := CellsAt.cell HC21_4.out 3
    have f3 := CellsAt.frozen HC21_4.out 3
    have zl := CellsAt.lt HC21_4.out
    simp at z0 z1 z2 z3
    refine wpL_step (i := 7) rfl (by kernel_rfl) (fun Kq hK => ?_)
    go_simp
    have hG := sets4_grown wuC gU (.int .i64 mu) (.int .i64 nu) (.slice qu ku ju) (.slice (some ⟨bu, ou, none⟩) 2 cu)
    have HBz : Hid (Below w.heap.size w ((((wuC.setCell ⟨gU, 0, none⟩ (.int .i64 mu)).setCell ⟨gU, 1, none⟩ (.int .i64 nu)).setCell ⟨gU, 2, none⟩ (.slice qu ku ju)).setCell ⟨gU, 3, none⟩ (.slice (some ⟨bu, ou, none⟩) 2 cu))) := HB21.out.grown hG HB21.out.size (fun q hq => by obtain rfl := Option.some.inj hq; omega)
    have hne0 : (some (⟨b, off, none⟩ : Addr).block : Option Nat) ≠ some gU := by
      intro e
      have e : b = gU := Option.some.inj e
      subst e
      exact (zreg_cells HC21_4.out off).1 _ HF21_0.out.1
    have HFz_0 : Hid (((((wuC.setCell ⟨gU, 0, none⟩ (.int .i64 mu)).setCell ⟨gU, 1, none⟩ (.int .i64 nu)).setCell ⟨gU, 2, none⟩ (.slice qu ku ju)).setCell ⟨gU, 3, none⟩ (.slice (some ⟨bu, ou, none⟩) 2 cu)).cell? ⟨b, off, none⟩ = some (.string ⟨#[101, 120, 116, 114, 97]⟩) ∧ (⟨b, off, none⟩ : Addr).block < ((((wuC.setCell ⟨gU, 0, none⟩ (.int .i64 mu)).setCell ⟨gU, 1, none⟩ (.int .i64 nu)).setCell ⟨gU, 2, none⟩ (.slice qu ku ju)).setCell ⟨gU, 3, none⟩ (.slice (some ⟨bu, ou, none⟩) 2 cu)).heap.size) := ⟨hG.cell HF21_0.out.1 hne0, Nat.lt_of_lt_of_le HF21_0.out.2 hG.size⟩
    clear hne0
    have hne1 : (some (⟨bu, ou + 15, none⟩ : Addr).block : Option Nat) ≠ some gU := by
      intro e
      have e : bu = gU := Option.some.inj e
      subst e
      have h1 := HU15.out.1
      rw [zreg_no HC21_4.out (by omega)] at h1
      cases h1
    have HFz_1 : Hid (((((wuC.setCell ⟨gU, 0, none⟩ (.int .i64 mu)).setCell ⟨gU, 1, none⟩ (.int .i64 nu)).setCell ⟨gU, 2, none⟩ (.slice qu ku ju)).setCell ⟨gU, 3, none⟩ (.slice (some ⟨bu, ou, none⟩) 2 cu)).cell? ⟨bu, ou + 15, none⟩ = some (.int .i64 4) ∧ (⟨bu, ou + 15, none⟩ : Addr).block < ((((wuC.setCell ⟨gU, 0, none⟩ (.int .i64 mu)).setCell ⟨gU, 1, none⟩ (.int .i64 nu)).setCell ⟨gU, 2, none⟩ (.slice qu ku ju)).setCell ⟨gU, 3, none⟩ (.slice (some ⟨bu, ou, none⟩) 2 cu)).heap.size) := ⟨hG.cell HU15.out.1 hne1, Nat.lt_of_lt_of_le HU15.out.2 hG.size⟩
    clear hne1
    have hne2 : (some (⟨bu, ou + 10, none⟩ : Addr).block : Option Nat) ≠ some gU := by
      intro e
      have e : bu = gU := Option.some.inj e
      subst e
      have h1 := HU10.out.1
      rw [zreg_no HC21_4.out (by omega)] at h1
      cases h1
    have HFz_2 : Hid (((((wuC.setCell ⟨gU, 0, none⟩ (.int .i64 mu)).setCell ⟨gU, 1, none⟩ (.int .i64 nu)).setCell ⟨gU, 2, none⟩ (.slice qu ku ju)).setCell ⟨gU, 3, none⟩ (.slice (some ⟨bu, ou, none⟩) 2 cu)).cell? ⟨bu, ou + 10, none⟩ = some (.int .i64 9) ∧ (⟨bu, ou + 10, none⟩ : Addr).block < ((((wuC.setCell ⟨gU, 0, none⟩ (.int .i64 mu)).setCell ⟨gU, 1, none⟩ (.int .i64 nu)).setCell ⟨gU, 2, none⟩ (.slice qu ku ju)).setCell ⟨gU, 3, none⟩ (.slice (some ⟨bu, ou, none⟩) 2 cu)).heap.size) := ⟨hG.cell HU10.out.1 hne2, Nat.lt_of_lt_of_le HU10.out.2 hG.size⟩
    clear hne2
    have HCz_0 : Hid (CellsAt ((((wuC.setCell ⟨gU, 0, none⟩ (.int .i64 mu)).setCell ⟨gU, 1, none⟩ (.int .i64 nu)).setCell ⟨gU, 2, none⟩ (.slice qu ku ju)).setCell ⟨gU, 3, none⟩ (.slice (some ⟨bu, ou, none⟩) 2 cu)) gA 27 #[.int .i64 ma, .int .i64 mi, .slice q lk j, .slice (some ⟨b, off, none⟩) 3 c]) := HC21_0.out.kept hG (by intro e; have := Option.some.inj e; omega)
    have HCz_1 : Hid (CellsAt ((((wuC.setCell ⟨gU, 0, none⟩ (.int .i64 mu)).setCell ⟨gU, 1, none⟩ (.int .i64 nu)).setCell ⟨gU, 2, none⟩ (.slice qu ku ju)).setCell ⟨gU, 3, none⟩ (.slice (some ⟨bu, ou, none⟩) 2 cu)) gB 27 #[.int .i64 mb, .int .i64 nb, .slice qb kb jb, .slice xb 1 cb]) := HC21_1.out.kept hG (by intro e; have := Option.some.inj e; omega)
    have HCz_2 : Hid (CellsAt ((((wuC.setCell ⟨gU, 0, none⟩ (.int .i64 mu)).setCell ⟨gU, 1, none⟩ (.int .i64 nu)).setCell ⟨gU, 2, none⟩ (.slice qu ku ju)).setCell ⟨gU, 3, none⟩ (.slice (some ⟨bu, ou, none⟩) 2 cu)) gS 27 #[.int .i64 ms, .int .i64 ns, .slice qs ks js, .slice xs ls cs]) := HC21_2.out.kept hG (by intro e; have := Option.some.inj e; omega)
    have HCz_3 : Hid (CellsAt ((((wuC.setCell ⟨gU, 0, none⟩ (.int .i64 mu)).setCell ⟨gU, 1, none⟩ (.int .i64 nu)).setCell ⟨gU, 2, none⟩ (.slice qu ku ju)).setCell ⟨gU, 3, none⟩ (.slice (some ⟨bu, ou, none⟩) 2 cu)) gM 31 #[.string ⟨#[108, 105, 98]⟩, .int .i64 1, .int .i64 9, .string ⟨#[97, 98, 99, 100, 101, 102, 103, 104]⟩, .slice le 1 lke, .slice none 0 0, .slice none 0 0]) := HC21_3.out.kept hG (by intro e; have := Option.some.inj e; omega)
    have HCz_4 : Hid (CellsAt ((((wuC.setCell ⟨gU, 0, none⟩ (.int .i64 mu)).setCell ⟨gU, 1, none⟩ (.int .i64 nu)).setCell ⟨gU, 2, none⟩ (.slice qu ku ju)).setCell ⟨gU, 3, none⟩ (.slice (some ⟨bu, ou, none⟩) 2 cu)) gU 27 #[.int .i64 mu, .int .i64 nu, .slice qu ku ju, .slice (some ⟨bu, ou, none⟩) 2 cu]) := sets4 HC21_4.out _ _ _ _
    clear hG z0 z1 z2 z3 f0 f1 f2 f3 zl HB21 HF21_0 HU15 HU10 HC21_0 HC21_1 HC21_2 HC21_3 HC21_4
    refine hK.out _ _ HCz_3.out (fun _ => ?_)
    clear hK Kq
    generalize ((((wuC.setCell ⟨gU, 0, none⟩ (.int .i64 mu)).setCell ⟨gU, 1, none⟩ (.int .i64 nu)).setCell ⟨gU, 2, none⟩ (.slice qu ku ju)).setCell ⟨gU, 3, none⟩ (.slice (some ⟨bu, ou, none⟩) 2 cu)) = wz at *
    refine wpL_last (x := 8) rfl (by kernel_rfl) (by kernel_rfl) (fun Kq hK => ?_)
    go_simp
    refine hK.out _ _ ?_
    refine NoPanic.normal ?_
    clear hK Kq
    have ygA := CellsAt.cell HCz_0.out 3
    have ylgA := CellsAt.lt HCz_0.out
    have ygB := CellsAt.cell HCz_1.out 3
    have ylgB := CellsAt.lt HCz_1.out
    have ygU := CellsAt.cell HCz_4.out 3
    have ylgU := CellsAt.lt HCz_4.out
    simp at ygA ygB ygU
    obtain ⟨x0, xl0⟩ := HFz_0.out
    obtain ⟨x1, xl1⟩ := HFz_1.out
    obtain ⟨x2, xl2⟩ := HFz_2.out
    dsimp only at xl0 xl1 xl2
    go_wp2
    go_ret
    exact ⟨rfl, HBz.out⟩

end Go.Proofs.YtlpnfbpgnfappaaGreat

/- What must be in any case, of regions. -/
namespace Go.Proofs.YtlpnfbpgnfappaaGreat
open Go.RowKit Go.PlainAid

set_option maxRecDepth 100000

set_option maxHeartbeats 1000000 in
theorem sameRuns_yes (l : List (Int × Int)) (v v' : Value) (w : World) (h1 : RowOf 2 runCell w.heap.size w v l) (h2 : RowOf 2 runCell w.heap.size w v' l) :
    Calls Tryz.prog 60 #[v, v'] w fun e w' => e = .returned (.bool true) ∧ Below w.heap.size w w' := by
  obtain ⟨a, cap, rfl, hz, h1⟩ := h1
  obtain ⟨a', cap', rfl, _, h2⟩ := h2
  have hne : ((l.length : Int) != (l.length : Int)) = false := by simp
  go_enter Tryz.func60, Tryz.ntmps60
  go_wp2
  go_loopw [5] (fun i wr => ∃ (k : Nat), k ≤ l.length ∧ i = .int .i64 k ∧ Hid (∃ q, wr = w.drewN q)) (fun i _ => l.length - (intOf i).toNat)
  case atStart => exact ⟨0, Nat.zero_le _, rfl, (⟨0, rfl⟩ : ∃ q, w = w.drewN q)⟩
  case round =>
    obtain ⟨k, hk, rfl, HQ⟩ := hrel
    by_cases hlt : k < l.length
    · obtain ⟨p, hp⟩ : ∃ p, l[k]? = some p := ⟨_, List.getElem?_eq_getElem hlt⟩
      rcases h1 with h | ⟨b, off, rfl, hbn, hc⟩
      · subst h; simp at hlt
      rcases h2 with h | ⟨b', off', rfl, hbn', hc'⟩
      · subst h; simp at hlt
      have hcl : ∀ p, wr.cell? p = w.cell? p := fun p => by obtain ⟨q, hq⟩ := HQ.out; rw [hq]; simp
      have c0 := (hcl _).trans (hc k _ hp 0 (by omega))
      have c1 := (hcl _).trans (hc k _ hp 1 (by omega))
      have d0 := (hcl _).trans (hc' k _ hp 0 (by omega))
      have d1 := (hcl _).trans (hc' k _ hp 1 (by omega))
      obtain ⟨n, A⟩ := p
      dsimp only [runCell] at c0 c1 d0 d1
      rw [Nat.add_zero] at c0 d0
      clear hcl hc hc' hp
      go_wp2
      go_quiet (fail)
      go_wp2
      obtain ⟨q, hq⟩ := HQ.out
      exact ⟨⟨k + 1, by omega, by go_num, (⟨q + _, by rw [hq, World.drewN_drewN]⟩ : ∃ q, _ = w.drewN q)⟩, by simp [intOf]; omega⟩
    · go_wp2
      go_ret
      obtain ⟨q, hq⟩ := HQ.out
      exact ⟨rfl, by rw [hq]; exact below_drewN (Below.refl _ _) q⟩

theorem reg_pair : chkReg pairL = 0 := by kernel_rfl
theorem free_pair : freeRes pairL = [(0, 1), (2, 2), (5, 11)] := by kernel_rfl
theorem first_pair : firstRes pairL 2 = (2, 0) := by kernel_rfl
theorem sz_lib : szM libM = 1 := by kernel_rfl

set_option maxHeartbeats 4000000 in
theorem regionBegun_any (w : World) : Calls Tryz.prog 16 #[] w fun e w' => e = .returned (.bool true) ∧ Below w.heap.size w w' := by
  go_enter Tryz.func16, Tryz.ntmps16
  go_wp2_with fail
  refine (lib_any _).mono ?_
  rintro e w1 ⟨pe, ke, rfl, hL, b1⟩
  have HS : Hid (Calls Tryz.prog 18 _ w1 fun e w' => _) := size_any libM _ w1 hL fits_lib
  rw [chk_lib, if_pos rfl, sz_lib] at HS
  clear hL
  go_wp2_with fail
  refine HS.out.mono ?_
  rintro e w2 ⟨rfl, b2⟩
  have B2 := b1.trans (b2.mono b1.size)
  clear b1 b2 HS
  go_wp2_with fail
  refine (pair_any _).mono ?_
  rintro e w3 ⟨v3, l3, rfl, h3, p3, b3⟩
  have B3 := B2.trans (b3.mono B2.size)
  have HF : Hid (Calls Tryz.prog 19 #[v3] w3 fun e w' => _) := free_any l3 v3 w3 p3 (pair_fits h3)
  rw [h3, reg_pair, free_pair] at HF
  obtain ⟨⟨a3, c3, rfl, _, _⟩, _⟩ := p3
  clear B2 b3 h3
  generalize l3.length = n3 at *
  go_wp2_with fail
  refine HF.out.mono ?_
  rintro e w4 ⟨⟨r4, rfl, R4⟩, b4⟩
  have B4 := B3.trans (b4.mono B3.size)
  clear HF b4 B3
  obtain ⟨a4, c4, rfl, _⟩ := id R4
  go_wp2_with fail
  refine (pair_any _).mono ?_
  rintro e w5 ⟨v5, l5, rfl, h5, p5, b5⟩
  have B5 := B4.trans (b5.mono B4.size)
  have R5 := (R4.below b5).more b5.size
  have HF : Hid (Calls Tryz.prog 39 #[v5, .int .i64 2] w5 fun e w' => _) := first_any l5 v5 2 w5 p5 (pair_fits h5)
  rw [h5, first_pair] at HF
  obtain ⟨⟨a5, c5, rfl, _, _⟩, _⟩ := p5
  clear B4 b5 h5 R4
  generalize l5.length = n5 at *
  go_wp2_with fail
  refine HF.out.mono ?_
  rintro e w6 ⟨rfl, b6⟩
  have B6 := B5.trans (b6.mono B5.size)
  have R6 := (R5.below b6).more b6.size
  clear HF b6 B5 R5
  have B7 : Below w.heap.size w (w6.alloc (.cells #[.int .i64 0, .int .i64 1, .int .i64 2, .int .i64 2, .int .i64 5, .int .i64 11] 48)) := B6.alloc B6.size _
  have b7 : Below w6.heap.size w6 (w6.alloc (.cells #[.int .i64 0, .int .i64 1, .int .i64 2, .int .i64 2, .int .i64 5, .int .i64 11] 48)) := (Below.refl _ _).alloc (Nat.le_refl _) _
  have R7 : RowOf 2 runCell (w6.alloc (.cells #[.int .i64 0, .int .i64 1, .int .i64 2, .int .i64 2, .int .i64 5, .int .i64 11] 48)).heap.size (w6.alloc (.cells #[.int .i64 0, .int .i64 1, .int .i64 2, .int .i64 2, .int .i64 5, .int .i64 11] 48)) (.slice (some ⟨w6.heap.size, 0, none⟩) 3 3) [(0, 1), (2, 2), (5, 11)] :=
    rowOf_cells (C := runC) (cells := runCell) (sz := 2) (fun _ => rfl) runC_at (CellsAt.new w6 48 _) [(0, 1), (2, 2), (5, 11)] (show 3 ≤ 255 by decide) 3 rfl
  have HQ : Hid (Calls Tryz.prog 60 _ _ fun e w' => _) := sameRuns_yes _ _ _ _ ((R6.below b7).more b7.size) R7
  have HB7 : Hid (Below w.heap.size w (w6.alloc (.cells #[.int .i64 0, .int .i64 1, .int .i64 2, .int .i64 2, .int .i64 5, .int .i64 11] 48))) := B7
  clear b7 R7 R6 B7
  go_wp2_with fail
  refine HQ.out.mono ?_
  rintro e w8 ⟨rfl, b8⟩
  have B8 := HB7.out.trans (b8.mono HB7.out.size)
  clear HQ HB7 b8
  go_wp2
  go_ret
  exact ⟨rfl, B8⟩

end Go.Proofs.YtlpnfbpgnfappaaGreat

/- What is packed stays right, and packing it again changes nothing: as data. -/
namespace Go.Proofs.YtlpnfbpgnfappaaGreat
open Go.RowKit Go.PlainAid Go.Lib

theorem pack_pack : ∀ (L : List Plc) (e : Int), packFrom e (packFrom e L) = packFrom e L
  | [], _ => rfl
  | p :: r, e => by
    show (⟨p.mod, e⟩ : Plc) :: packFrom (e + szM p.mod) (packFrom (e + szM p.mod) r) = ⟨p.mod, e⟩ :: packFrom (e + szM p.mod) r
    rw [pack_pack r]
theorem off_pack : ∀ (L : List Plc) (e : Int), offFrom e (packFrom e L) = 0
  | [], _ => rfl
  | p :: r, e => by
    show (if e = e then 0 else 1) + offFrom (e + szM p.mod) (packFrom (e + szM p.mod) r) = 0
    rw [if_pos rfl, off_pack r]
theorem step_pack (L : List Plc) : stepRes (packFrom 0 L) = (packFrom 0 L, false) := by
  unfold stepRes
  cases hs : stepFrom 0 (packFrom 0 L) with
  | none => rfl
  | some L' =>
    have := (step_some hs).2.1
    rw [off_pack] at this
    omega
theorem chk_pack {K : Ker} : ∀ (n : Nat) (L : List Plc), offFrom 0 L = n → chkRg K L = 0 → chkRg K (packFrom 0 L) = 0 := by
  intro n
  induction n with
  | zero =>
    intro L hn h
    cases hs : stepFrom 0 L with
    | none => rw [(step_none hs).1]; exact h
    | some L' =>
      have := (step_some hs).2.1
      omega
  | succ n ih =>
    intro L hn h
    cases hs : stepFrom 0 L with
    | none => rw [(step_none hs).1]; exact h
    | some L' =>
      obtain ⟨n1, n2, _⟩ := step_some hs
      rw [← n1]
      exact ih L' (by omega) (step_right h hs)

end Go.Proofs.YtlpnfbpgnfappaaGreat

/- What a step lowers, and what is free behind a pack: as data. -/
namespace Go.Proofs.YtlpnfbpgnfappaaGreat
open Go.RowKit Go.PlainAid Go.Lib

theorem runs_packed : ∀ (L : List Plc) (e : Int), stepFrom e L = none → runsFrom e L = [] ∨ ∃ a, runsFrom e L = [(a, 16 - a)]
  | [], e, _ => by
    have hr : runsFrom e [] = if e = 16 then [] else [(e, 16 - e)] := rfl
    rw [hr]
    split
    · exact .inl rfl
    · exact .inr ⟨e, rfl⟩
  | p :: r, e, h => by
    have hst : stepFrom e (p :: r) = if p.first = e then (stepFrom (e + szM p.mod) r).map (p :: ·) else some (⟨p.mod, e⟩ :: r) := rfl
    rw [hst] at h
    by_cases hp : p.first = e
    · rw [if_pos hp, Option.map_eq_none_iff] at h
      have hr : runsFrom e (p :: r) = gapOf e p.first ++ runsFrom (p.first + szM p.mod) r := rfl
      have hg : gapOf e p.first = [] := by unfold gapOf; rw [if_pos hp.symm]
      rw [hr, hg, List.nil_append, hp]
      exact runs_packed r _ h
    · rw [if_neg hp] at h
      cases h
theorem step_less : ∀ {L L' : List Plc} {e : Int}, okPl e L → stepFrom e L = some L' → ∀ (k : Nat) (p q : Plc), L[k]? = some p → L'[k]? = some q → q.mod = p.mod ∧ q.first ≤ p.first
  | [], _, _, _, h => by cases h
  | x :: r, L', e, ⟨h1, h2, h3, h4⟩, h => by
    intro k p q hk hq
    unfold stepFrom at h
    by_cases hp : x.first = e
    · rw [if_pos hp] at h
      obtain ⟨r', hr, rfl⟩ := Option.map_eq_some_iff.1 h
      rw [hp] at h4
      cases k with
      | zero =>
        obtain rfl : x = p := by simpa using hk
        obtain rfl : x = q := by simpa using hq
        exact ⟨rfl, Int.le_refl _⟩
      | succ k => exact step_less h4 hr k p q (by simpa using hk) (by simpa using hq)
    · rw [if_neg hp] at h
      obtain rfl := Option.some.inj h
      cases k with
      | zero =>
        obtain rfl : x = p := by simpa using hk
        obtain rfl : (⟨x.mod, e⟩ : Plc) = q := by simpa using hq
        exact ⟨rfl, h1⟩
      | succ k =>
        have hk' : r[k]? = some p := by simpa using hk
        have hq' : r[k]? = some q := by simpa using hq
        rw [hk'] at hq'
        obtain rfl := Option.some.inj hq'
        exact ⟨rfl, Int.le_refl _⟩
/-- The same of placed modules in memory. -/
theorem step_less_pv {l l' : List PV} {L' : List Plc} (hok : okPl 0 (l.map PV.plc)) (hs : stepFrom 0 (l.map PV.plc) = some L') (h : l'.map PV.plc = L') {k : Nat} {x y : PV} (hx : l[k]? = some x) (hy : l'[k]? = some y) : y.mod = x.mod ∧ y.first ≤ x.first := by
  have h1 : (l.map PV.plc)[k]? = some x.plc := by rw [List.getElem?_map, hx]; rfl
  have h2 : L'[k]? = some y.plc := by rw [← h, List.getElem?_map, hy]; rfl
  exact step_less hok hs k _ _ h1 h2

end Go.Proofs.YtlpnfbpgnfappaaGreat

/- No check tells that there is no room: as data. -/
namespace Go.Proofs.YtlpnfbpgnfappaaGreat
open Go.RowKit Go.PlainAid

theorem le_expErr (most : Int) (met : List ByteArray) (e : Exp) : expErr most met e ≤ 7 := by
  unfold expErr
  split
  · decide
  split
  · decide
  split <;> decide
theorem le_chkExps (most : Int) : ∀ (l : List Exp) (met : List ByteArray), chkExps most met l ≤ 7
  | [], _ => by show (0 : Int) ≤ 7; decide
  | e :: l, met => by
    have h : chkExps most met (e :: l) = if expErr most met e = 0 then chkExps most (met ++ [e.name]) l else expErr most met e := rfl
    rw [h]
    split
    · exact le_chkExps most l _
    · exact le_expErr _ _ _
theorem le_impErr (met : List (ByteArray × ByteArray)) (i : Imp) : impErr met i ≤ 7 := by
  unfold impErr
  split
  · decide
  split
  · decide
  split <;> decide
theorem le_chkImps : ∀ (l : List Imp) (met : List (ByteArray × ByteArray)), chkImps met l ≤ 7
  | [], _ => by show (0 : Int) ≤ 7; decide
  | i :: l, met => by
    have h : chkImps met (i :: l) = if impErr met i = 0 then chkImps (met ++ [(i.mod, i.name)]) l else impErr met i := rfl
    rw [h]
    split
    · exact le_chkImps l _
    · exact le_impErr _ _
theorem le_patErr (bytes imports ende : Int) (p : Pat) : patErr bytes imports ende p ≤ 7 := by
  unfold patErr
  split
  · decide
  split
  · decide
  split
  · decide
  split <;> decide
theorem le_chkPats (bytes imports : Int) : ∀ (l : List Pat) (ende : Int), chkPats bytes imports ende l ≤ 7
  | [], _ => by show (0 : Int) ≤ 7; decide
  | p :: l, ende => by
    have h : chkPats bytes imports ende (p :: l) = if patErr bytes imports ende p = 0 then chkPats bytes imports (p.pos + width p.kind) l else patErr bytes imports ende p := rfl
    rw [h]
    split
    · exact le_chkPats bytes imports l _
    · exact le_patErr _ _ _ _
theorem le_chkMod (m : Mod) : chkMod m ≤ 7 := by
  unfold chkMod
  split
  · decide
  split
  · decide
  split
  · decide
  split
  · decide
  split
  · exact le_chkExps _ _ _
  split
  · exact le_chkImps _ _
  · exact le_chkPats _ _ _ _
theorem le_chkKer (k : Ker) : chkKer k ≤ 7 := by
  unfold chkKer
  split
  · decide
  split
  · decide
  · exact le_chkExps _ _ _
theorem le_outErr (p : Plc) : outErr p ≤ 7 := by
  unfold outErr
  split <;> decide
theorem le_chkBy {q : Plc → Int} (hq : ∀ p, q p ≤ 7) : ∀ l : List Plc, chkBy q l ≤ 7
  | [] => by show (0 : Int) ≤ 7; decide
  | p :: l => by
    have h : chkBy q (p :: l) = if chkMod p.mod ≠ 0 then chkMod p.mod else if q p ≠ 0 then q p else chkBy q l := rfl
    rw [h]
    split
    · exact le_chkMod _
    split
    · exact hq p
    · exact le_chkBy hq l
theorem le_chkReg (l : List Plc) : chkReg l ≤ 7 := by
  unfold chkReg
  split
  · decide
  split
  · exact le_chkBy le_outErr l
  split <;> decide
theorem le_chkPls : ∀ l : List Plc, chkPls l ≤ 7
  | [] => by show (0 : Int) ≤ 7; decide
  | p :: l => by
    have h : chkPls (p :: l) = if chkMod p.mod ≠ 0 then chkMod p.mod else if betw p.first 0 15 = false then 3 else chkPls l := rfl
    rw [h]
    split
    · exact le_chkMod _
    split
    · decide
    · exact le_chkPls l
theorem le_chkFind (k : Ker) (l : List Plc) : chkFind k l ≤ 7 := by
  unfold chkFind
  split
  · exact le_chkKer k
  · unfold chkPlaced
    split
    · decide
    · exact le_chkPls l
theorem le_addrOf (k : Ker) (l : List Plc) (i : Imp) : (addrOf k l i).2 ≤ 7 := by
  unfold addrOf
  split
  · show (5 : Int) ≤ 7; decide
  · split
    · show (4 : Int) ≤ 7; decide
    · split
      · show (5 : Int) ≤ 7; decide
      · show (0 : Int) ≤ 7; decide
theorem le_addrsFrom (k : Ker) (l : List Plc) : ∀ (r : List Imp) (acc : List Int), (addrsFrom k l acc r).2 ≤ 7
  | [], _ => by show (0 : Int) ≤ 7; decide
  | i :: r, acc => by
    have h : addrsFrom k l acc (i :: r) = if (addrOf k l i).2 ≠ 0 then ([], (addrOf k l i).2) else addrsFrom k l (acc ++ [(addrOf k l i).1]) r := rfl
    rw [h]
    split
    · exact le_addrOf k l i
    · exact le_addrsFrom k l r _
theorem le_allRes (k : Ker) (l : List Plc) (m : Mod) : (allRes k l m).2 ≤ 7 := by
  unfold allRes
  split
  · exact le_chkFind k l
  split
  · exact le_chkMod m
  · exact le_addrsFrom k l _ _
theorem le_valErr (kind sym add place : Int) : valErr kind sym add place ≤ 7 := by
  unfold valErr
  split
  · decide
  split
  · decide
  split <;> decide
theorem le_appErr (len : Int) (p : Pat) (sym base : Int) : appErr len p sym base ≤ 7 := by
  unfold appErr
  split
  · decide
  split
  · decide
  · exact le_valErr _ _ _ _
theorem le_patd (ads : List Int) (beg : Int) : ∀ (r : List Pat) (s : ByteArray), (patd ads beg s r).2 ≤ 7
  | [], _ => by show (0 : Int) ≤ 7; decide
  | p :: r, s => by
    have h : patd ads beg s (p :: r) = if appErr s.size p (symOf ads beg p) beg ≠ 0 then (⟨#[]⟩, appErr s.size p (symOf ads beg p) beg) else patd ads beg (appStr s p (symOf ads beg p) beg) r := rfl
    rw [h]
    split
    · exact le_appErr _ _ _ _
    · exact le_patd ads beg r _
theorem le_imgRes (K : Ker) (L : List Plc) (p : Plc) : (imgRes K L p).2 ≤ 7 := by
  unfold imgRes
  split
  · exact le_allRes _ _ _
  split
  · exact le_patd _ _ _ _
  · show (0 : Int) ≤ 7; decide
theorem le_areaFrom (K : Ker) (L : List Plc) : ∀ (r : List Plc) (s : ByteArray), (areaFrom K L s r).2 ≤ 7
  | [], _ => by show (0 : Int) ≤ 7; decide
  | p :: r, s => by
    have h : areaFrom K L s (p :: r) = if (imgRes K L p).2 ≠ 0 then (⟨#[]⟩, (imgRes K L p).2) else areaFrom K L (fillTo s (64 * p.first.toNat) ++ (imgRes K L p).1) r := rfl
    rw [h]
    split
    · exact le_imgRes K L p
    · exact le_areaFrom K L r _
theorem le_chkLink (K : Ker) (L : List Plc) : chkLink K L ≤ 7 := by
  unfold chkLink
  split
  · exact le_chkKer K
  split
  · exact le_chkReg L
  split <;> decide
theorem le_areaOf (K : Ker) (L : List Plc) : (areaOf K L).2 ≤ 7 := by
  unfold areaOf
  split
  · exact le_chkLink K L
  · exact le_areaFrom K L L _
theorem le_chkRg (K : Ker) (L : List Plc) : chkRg K L ≤ 7 := by
  rcases chkRg_cases K L with ⟨_, e⟩ | ⟨_, _, e⟩ | ⟨_, h, h2, e⟩ | ⟨_, _, _, e⟩
  · rw [e]; exact le_chkKer K
  · rw [e]; exact le_chkReg L
  · rw [e]
    rcases lnOrd_err h with ⟨_, g⟩ | ⟨_, _, g | g⟩ <;> omega
  · rw [e]; exact le_areaOf K L
/-- Where putting in tells that there is no room, no run is long enough. -/
theorem no_room {K : Ker} {L : List Plc} {M : Mod} (h0 : chkRg K L = 0) (h : (planRes K L (instDo L M)).2 = 8) : chkMod M = 0 ∧ fitOf (szM M) (runsFrom 0 L) = none := by
  rcases plan_cases K L (instDo L M) with ⟨g, _⟩ | ⟨_, g, e⟩ | ⟨_, _, g, e⟩ | ⟨_, _, _, e⟩
  · exact absurd h0 g
  · rw [e] at h
    dsimp only at h
    unfold instDo at h
    split at h
    · have := le_chkMod M
      dsimp only at h
      omega
    · rename_i hc
      split at h
      · exact absurd h (by decide)
      split at h
      · exact absurd h (by decide)
      cases hq : fitOf (szM M : Int) (runsFrom 0 L) with
      | none => exact ⟨by omega, rfl⟩
      | some r => rw [hq] at h; exact absurd h (by simp)
  · rw [e] at h
    have := le_chkRg K (instDo L M).1
    dsimp only at h
    omega
  · rw [e] at h
    exact absurd h (by simp)
/-- Behind packing, all that is free is one run. -/
theorem packed_few {P : List Plc} {m : Int} (h : stepFrom 0 P = none) (hm : 1 ≤ m) (hf : fitOf m (runsFrom 0 P) = none) : sumRuns (runsFrom 0 P) < m := by
  rcases runs_packed P 0 h with e | ⟨a, e⟩
  · rw [e]
    show (0 : Int) < m
    omega
  · rw [e] at hf ⊢
    have h1 : fitOf m [(a, 16 - a)] = if m ≤ 16 - a then some (a, 16 - a) else none := by
      unfold fitOf
      simp [List.find?]
      split <;> simp_all
    rw [h1] at hf
    split at hf
    · cases hf
    · show (16 - a) + (0 : Int) < m
      omega

end Go.Proofs.YtlpnfbpgnfappaaGreat
